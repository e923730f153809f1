/-
  brepkernellaw02.RationalRounds: by the contracts.
-/
import Derived.Test.YtnhekpghpmmggaaGreatDoorRw
import Derived.Test.YtnhekpghpmmggaaGreatDoorBq
import Derived.Test.YtnhekpghpmmggaaGreatDoorBu
import Derived.Test.YtnhekpghpmmggaaGreatDoorBt
import Derived.Test.YtnhekpghpmmggaaGreatDoorBr
namespace Go.Proofs.YtnhekpghpmmggaaGreatDoor
open Go.RowKit

set_option maxRecDepth 20000 in
set_option maxHeartbeats 4000000 in
theorem rounds_no1 {w : World} {sa : Bool} {ua ub : Value} {n1 d1 : List Nat} (hua : Rd w ua n1) (hub : Rd w ub d1) (k : Int) (hn : ¬ (n1.length ≤ 16 ∧ d1.length ≤ 16)) (htab : Lib.TabIs Tryz.prog w "internal/strconv.uint64pow10" .u64 Lib.pow10Tab) (hZ : Tz w) :
    Calls Tryz.prog 7 #[.agg #[.bool sa, ua, ub], .int .i64 k] w fun e w' => e = .returned (.bool true) ∧ Kp w w' := by
  have HTB := Lib.hid (Lib.tabBelow_of_tabIs htab)
  have HZ := Lib.hid hZ
  have CAW := Lib.hid (fun w' (kk : Kp w w') (t : Tz w') => qawake_any w' t (tabKp HTB.out kk))
  have CL1 := Lib.hid (fun w' (kk : Kp w w') => qlight_no (s := sa) (hua.kp kk) (hub.kp kk) hn)
  obtain ⟨xo1, xl1, xc1, rfl⟩ := rd_slice hua
  obtain ⟨xo2, xl2, xc2, rfl⟩ := rd_slice hub
  have HT := Lib.hid (Rw1.new w (.bool sa) (.slice xo1 xl1 xc1) (.slice xo2 xl2 xc2))
  clear hua hub htab hZ hn
  go_enter Tryz.func7, Tryz.ntmps7
  have Z_e := Lib.hid (HZ.out.kp HT.out.k)
  obtain ⟨xz0, xz1, xz2⟩ := HT.out.ra.cells
  go_wp2_with (go_at_call 13; (with_reducible refine (CL1.out _ HT.out.k).mono ?_); rintro e w2 ⟨rfl, k2⟩; refine Hid.out ?_)
  refine Lib.hid ?_
  have T_2 := Lib.hid (HT.out.kp k2)
  have Z_2 := Lib.hid (Z_e.out.kp k2)
  clear HT Z_e
  clear k2
  obtain ⟨xz0, xz1, xz2⟩ := T_2.out.ra.cells
  go_wp2_with (go_at_call 14; (with_reducible refine (CAW.out _ T_2.out.k Z_2.out).mono ?_); rintro e w3 ⟨rfl, k3⟩; refine Hid.out ?_)
  refine Lib.hid ?_
  have T_3 := Lib.hid (T_2.out.kp k3)
  have Z_3 := Lib.hid (Z_2.out.kp k3)
  clear T_2 Z_2
  clear k3
  obtain ⟨xz0, xz1, xz2⟩ := T_3.out.ra.cells
  go_wp2
  go_ret
  exact ⟨rfl, T_3.out.k⟩

set_option maxRecDepth 20000 in
set_option maxHeartbeats 4000000 in
theorem rounds_great {w : World} {sa : Bool} {ua ub : Value} {n1 d1 : List Nat} (hua : Rd w ua n1) (hub : Rd w ub d1) (k : Int) (hk : 200 < k ∧ k ≤ 4096) (hl : (n1.length ≤ 16 ∧ d1.length ≤ 16)) (htab : Lib.TabIs Tryz.prog w "internal/strconv.uint64pow10" .u64 Lib.pow10Tab) (hZ : Tz w) :
    Calls Tryz.prog 7 #[.agg #[.bool sa, ua, ub], .int .i64 k] w fun e w' => e = .returned (.bool true) ∧ Kp w w' := by
  have HTB := Lib.hid (Lib.tabBelow_of_tabIs htab)
  have HZ := Lib.hid hZ
  have CAW := Lib.hid (fun w' (kk : Kp w w') (t : Tz w') => qawake_any w' t (tabKp HTB.out kk))
  have hl1 := hl
  have CL1 := Lib.hid (fun w' (kk : Kp w w') => qlight_yes (s := sa) (hua.kp kk) (hub.kp kk) hl1)
  have CN1 := Lib.hid (fun w' (kk : Kp w w') => number_any (s := sa) (hua.kp kk) (hub.kp kk) hl1.1 hl1.2)
  have Sx : RSz 16 (numR sa n1 d1) := rsz_num hua hub hl1.1 hl1.2
  obtain ⟨Xx, hXx⟩ : ∃ X, X = (numR sa n1 d1) := ⟨_, rfl⟩
  rw [← hXx] at CN1 Sx
  clear hXx
  obtain ⟨xo1, xl1, xc1, rfl⟩ := rd_slice hua
  obtain ⟨xo2, xl2, xc2, rfl⟩ := rd_slice hub
  have HT := Lib.hid (Rw1.new w (.bool sa) (.slice xo1 xl1 xc1) (.slice xo2 xl2 xc2))
  have t1 : decide (200 < k) = true := decide_eq_true hk.1
  have t2 : decide (k ≤ 4096) = true := decide_eq_true hk.2
  clear hk
  clear hua hub hl1 Sx htab hZ
  go_enter Tryz.func7, Tryz.ntmps7
  have Z_e := Lib.hid (HZ.out.kp HT.out.k)
  obtain ⟨xz0, xz1, xz2⟩ := HT.out.ra.cells
  go_wp2_with (go_at_call 13; (with_reducible refine (CL1.out _ HT.out.k).mono ?_); rintro e w2 ⟨rfl, k2⟩; refine Hid.out ?_)
  refine Lib.hid ?_
  have T_2 := Lib.hid (HT.out.kp k2)
  have Z_2 := Lib.hid (Z_e.out.kp k2)
  clear HT Z_e
  clear k2
  obtain ⟨xz0, xz1, xz2⟩ := T_2.out.ra.cells
  go_wp2_with (go_at_call 14; (with_reducible refine (CAW.out _ T_2.out.k Z_2.out).mono ?_); rintro e w3 ⟨rfl, k3⟩; refine Hid.out ?_)
  refine Lib.hid ?_
  have T_3 := Lib.hid (T_2.out.kp k3)
  have Z_3 := Lib.hid (Z_2.out.kp k3)
  clear T_2 Z_2
  clear k3
  obtain ⟨xz0, xz1, xz2⟩ := T_3.out.ra.cells
  go_wp2
  go_ret
  exact ⟨rfl, T_3.out.k⟩

set_option maxRecDepth 20000 in
set_option maxHeartbeats 4000000 in
theorem rounds_small {w : World} {sa : Bool} {ua ub : Value} {n1 d1 : List Nat} (hua : Rd w ua n1) (hub : Rd w ub d1) (k : Int) (hk : k ≤ 200) (hl : (n1.length ≤ 16 ∧ d1.length ≤ 16)) (htab : Lib.TabIs Tryz.prog w "internal/strconv.uint64pow10" .u64 Lib.pow10Tab) (hZ : Tz w) :
    Calls Tryz.prog 7 #[.agg #[.bool sa, ua, ub], .int .i64 k] w fun e w' => e = .returned (.bool true) ∧ Kp w w' := by
  have HTB := Lib.hid (Lib.tabBelow_of_tabIs htab)
  have HZ := Lib.hid hZ
  have CAW := Lib.hid (fun w' (kk : Kp w w') (t : Tz w') => qawake_any w' t (tabKp HTB.out kk))
  have hl1 := hl
  have CL1 := Lib.hid (fun w' (kk : Kp w w') => qlight_yes (s := sa) (hua.kp kk) (hub.kp kk) hl1)
  have CN1 := Lib.hid (fun w' (kk : Kp w w') => number_any (s := sa) (hua.kp kk) (hub.kp kk) hl1.1 hl1.2)
  have Sx : RSz 16 (numR sa n1 d1) := rsz_num hua hub hl1.1 hl1.2
  obtain ⟨Xx, hXx⟩ : ∃ X, X = (numR sa n1 d1) := ⟨_, rfl⟩
  rw [← hXx] at CN1 Sx
  clear hXx
  obtain ⟨xo1, xl1, xc1, rfl⟩ := rd_slice hua
  obtain ⟨xo2, xl2, xc2, rfl⟩ := rd_slice hub
  have HT := Lib.hid (Rw1.new w (.bool sa) (.slice xo1 xl1 xc1) (.slice xo2 xl2 xc2))
  have t1 : decide (200 < k) = false := decide_eq_false (by omega)
  have CF1 := Lib.hid (fun w' a (ha : RatV w' a (Xx)) (t : Tz w') => qfloor_any ha Sx (by omega) t)
  have CF2 := Lib.hid (fun w' a (ha : RatV w' a (Xx)) => rqfloor_any ha Sx (by omega))
  have CS1 := Lib.hid (fun w' a b (ha : RatV w' a ((Xx.floor : Rat))) (hb : RatV w' b ((Xx.floor : Rat))) => by have h := rqsame_any ha hb; rw [decide_eq_true (show ((Xx.floor : Rat)) = ((Xx.floor : Rat)) from rfl)] at h; exact h)
  have CD1 := Lib.hid (fun w' a (ha : RatV w' a (Xx)) (t : Tz w') => qdown_any ha k Sx (by omega) t)
  have CD2 := Lib.hid (fun w' a (ha : RatV w' a (Xx)) => rqdown_any ha k Sx (by omega))
  have CS2 := Lib.hid (fun w' a b (ha : RatV w' a (downR Xx (scaleQ k))) (hb : RatV w' b (downR Xx (scaleK k))) => by have h := rqsame_any ha hb; rw [decide_eq_true (show (downR Xx (scaleQ k)) = (downR Xx (scaleK k)) from rfl)] at h; exact h)
  have CU1 := Lib.hid (fun w' a (ha : RatV w' a (Xx)) (t : Tz w') => qup_any ha k Sx (by omega) t)
  have CU2 := Lib.hid (fun w' a (ha : RatV w' a (Xx)) => rqup_any ha k Sx (by omega))
  have CS3 := Lib.hid (fun w' a b (ha : RatV w' a (upR Xx (scaleQ k))) (hb : RatV w' b (upR Xx (scaleK k))) => by have h := rqsame_any ha hb; rw [decide_eq_true (show (upR Xx (scaleQ k)) = (upR Xx (scaleK k)) from rfl)] at h; exact h)
  have CB1 := Lib.hid (fun w' a (ha : RatV w' a (Xx)) => qbits_any ha Sx (by omega))
  have CB2 := Lib.hid (fun w' a (ha : RatV w' a (Xx)) => rqbits_any ha Sx (by omega))
  obtain ⟨bb, hbb⟩ : ∃ b : Nat, b = max (bitsN Xx.num.natAbs) (bitsN Xx.den) := ⟨_, rfl⟩
  rw [← hbb] at CB1 CB2
  clear hbb hk
  clear hua hub hl1 Sx htab hZ
  go_enter Tryz.func7, Tryz.ntmps7
  have Z_e := Lib.hid (HZ.out.kp HT.out.k)
  obtain ⟨xz0, xz1, xz2⟩ := HT.out.ra.cells
  go_wp2_with (go_at_call 13; (with_reducible refine (CL1.out _ HT.out.k).mono ?_); rintro e w2 ⟨rfl, k2⟩; refine Hid.out ?_)
  refine Lib.hid ?_
  have T_2 := Lib.hid (HT.out.kp k2)
  have Z_2 := Lib.hid (Z_e.out.kp k2)
  clear HT Z_e
  clear k2
  obtain ⟨xz0, xz1, xz2⟩ := T_2.out.ra.cells
  go_wp2_with (go_at_call 24; (with_reducible refine (CN1.out _ T_2.out.k).mono ?_); rintro e w3 ⟨vx, rfl, hx, k3⟩; refine Hid.out ?_)
  refine Lib.hid ?_
  have T_3 := Lib.hid (T_2.out.kp k3)
  have Z_3 := Lib.hid (Z_2.out.kp k3)
  clear T_2 Z_2
  clear k3
  obtain ⟨xs, xq1, xr1, xs1, xq2, xr2, xs2, rfl⟩ := hx.lit
  have Vx_l := Lib.hid hx
  have Bx_l := Lib.hid (Res.new w3 (.bool xs) (.slice xq1 xr1 xs1) (.slice xq2 xr2 xs2))
  clear hx
  have T_4 := Lib.hid (T_3.out.kp (Kp.alloc _ (Obj.cells #[Value.bool xs, Value.slice xq1 xr1 xs1, Value.slice xq2 xr2 xs2] 27)))
  have Z_4 := Lib.hid (Z_3.out.kp (Kp.alloc _ (Obj.cells #[Value.bool xs, Value.slice xq1 xr1 xs1, Value.slice xq2 xr2 xs2] 27)))
  have Vx_4 := Lib.hid (Vx_l.out.kp (Kp.alloc _ (Obj.cells #[Value.bool xs, Value.slice xq1 xr1 xs1, Value.slice xq2 xr2 xs2] 27)))
  clear T_3 Z_3 Vx_l
  obtain ⟨xz0, xz1, xz2⟩ := T_4.out.ra.cells
  obtain ⟨xg0, xg1, xg2, _⟩ := Bx_l.out.cells
  go_upto_region 4 with fail
  have T_5 := Lib.hid (T_4.out.kp (Below.refl _ _).drew)
  have Z_5 := Lib.hid (Z_4.out.kp (Below.refl _ _).drew)
  have Vx_5 := Lib.hid (Vx_4.out.kp (Below.refl _ _).drew)
  have Bx_5 := Lib.hid (Bx_l.out.kp (Below.refl _ _).drew)
  clear T_4 Z_4 Vx_4 Bx_l
  go_region_held3 (fun w' => w'.cell? ⟨w3.heap.size, 0, none⟩ = some (.bool xs) ∧ w'.cell? ⟨w3.heap.size, 1, none⟩ = some (.slice xq1 xr1 xs1) ∧ w'.cell? ⟨w3.heap.size, 2, none⟩ = some (.slice xq2 xr2 xs2))
    (first | (refine ⟨?_, ?_, ?_⟩ <;> assumption) | go_keep)
    (first
      | (go_at_call 48; (with_reducible refine (CF1.out _ _ Vx_5.out Z_5.out).mono ?_); rintro e w6 ⟨vA1, rfl, hA1, k6⟩; have T_6 := Lib.hid (T_5.out.kp k6); have Z_6 := Lib.hid (Z_5.out.kp k6); have Vx_6 := Lib.hid (Vx_5.out.kp k6); have Bx_6 := Lib.hid (Bx_5.out.kp k6); clear T_5 Z_5 Vx_5 Bx_5; have A1_6 := Lib.hid hA1; clear hA1 k6; obtain ⟨xz0, xz1, xz2⟩ := T_6.out.ra.cells; obtain ⟨xg0, xg1, xg2, _⟩ := Bx_6.out.cells)
      | (go_at_call 49; (with_reducible refine (CF2.out _ _ Vx_6.out).mono ?_); rintro e w7 ⟨vA2, rfl, hA2, k7⟩; have T_7 := Lib.hid (T_6.out.kp k7); have Z_7 := Lib.hid (Z_6.out.kp k7); have Vx_7 := Lib.hid (Vx_6.out.kp k7); have Bx_7 := Lib.hid (Bx_6.out.kp k7); have A1_7 := Lib.hid (A1_6.out.kp k7); clear T_6 Z_6 Vx_6 Bx_6 A1_6; have A2_7 := Lib.hid hA2; clear hA2 k7; obtain ⟨xz0, xz1, xz2⟩ := T_7.out.ra.cells; obtain ⟨xg0, xg1, xg2, _⟩ := Bx_7.out.cells)
      | (go_at_call 19; (with_reducible refine (CS1.out _ _ _ A1_7.out A2_7.out).mono ?_); rintro e w8 ⟨rfl, k8⟩; have T_8 := Lib.hid (T_7.out.kp k8); have Z_8 := Lib.hid (Z_7.out.kp k8); have Vx_8 := Lib.hid (Vx_7.out.kp k8); have Bx_8 := Lib.hid (Bx_7.out.kp k8); have A1_8 := Lib.hid (A1_7.out.kp k8); have A2_8 := Lib.hid (A2_7.out.kp k8); clear T_7 Z_7 Vx_7 Bx_7 A1_7 A2_7; clear k8; obtain ⟨xz0, xz1, xz2⟩ := T_8.out.ra.cells; obtain ⟨xg0, xg1, xg2, _⟩ := Bx_8.out.cells)
      | (go_at_call 50; (with_reducible refine (CD1.out _ _ Vx_8.out Z_8.out).mono ?_); rintro e w9 ⟨vA3, rfl, hA3, k9⟩; have T_9 := Lib.hid (T_8.out.kp k9); have Z_9 := Lib.hid (Z_8.out.kp k9); have Vx_9 := Lib.hid (Vx_8.out.kp k9); have Bx_9 := Lib.hid (Bx_8.out.kp k9); have A1_9 := Lib.hid (A1_8.out.kp k9); have A2_9 := Lib.hid (A2_8.out.kp k9); clear T_8 Z_8 Vx_8 Bx_8 A1_8 A2_8; have A3_9 := Lib.hid hA3; clear hA3 k9; obtain ⟨xz0, xz1, xz2⟩ := T_9.out.ra.cells; obtain ⟨xg0, xg1, xg2, _⟩ := Bx_9.out.cells)
      | (go_at_call 51; (with_reducible refine (CD2.out _ _ Vx_9.out).mono ?_); rintro e w10 ⟨vA4, rfl, hA4, k10⟩; have T_10 := Lib.hid (T_9.out.kp k10); have Z_10 := Lib.hid (Z_9.out.kp k10); have Vx_10 := Lib.hid (Vx_9.out.kp k10); have Bx_10 := Lib.hid (Bx_9.out.kp k10); have A1_10 := Lib.hid (A1_9.out.kp k10); have A2_10 := Lib.hid (A2_9.out.kp k10); have A3_10 := Lib.hid (A3_9.out.kp k10); clear T_9 Z_9 Vx_9 Bx_9 A1_9 A2_9 A3_9; have A4_10 := Lib.hid hA4; clear hA4 k10; obtain ⟨xz0, xz1, xz2⟩ := T_10.out.ra.cells; obtain ⟨xg0, xg1, xg2, _⟩ := Bx_10.out.cells)
      | (go_at_call 19; (with_reducible refine (CS2.out _ _ _ A3_10.out A4_10.out).mono ?_); rintro e w11 ⟨rfl, k11⟩; have T_11 := Lib.hid (T_10.out.kp k11); have Z_11 := Lib.hid (Z_10.out.kp k11); have Vx_11 := Lib.hid (Vx_10.out.kp k11); have Bx_11 := Lib.hid (Bx_10.out.kp k11); have A1_11 := Lib.hid (A1_10.out.kp k11); have A2_11 := Lib.hid (A2_10.out.kp k11); have A3_11 := Lib.hid (A3_10.out.kp k11); have A4_11 := Lib.hid (A4_10.out.kp k11); clear T_10 Z_10 Vx_10 Bx_10 A1_10 A2_10 A3_10 A4_10; clear k11; obtain ⟨xz0, xz1, xz2⟩ := T_11.out.ra.cells; obtain ⟨xg0, xg1, xg2, _⟩ := Bx_11.out.cells)
      | (go_at_call 52; (with_reducible refine (CU1.out _ _ Vx_11.out Z_11.out).mono ?_); rintro e w12 ⟨vA5, rfl, hA5, k12⟩; have T_12 := Lib.hid (T_11.out.kp k12); have Z_12 := Lib.hid (Z_11.out.kp k12); have Vx_12 := Lib.hid (Vx_11.out.kp k12); have Bx_12 := Lib.hid (Bx_11.out.kp k12); have A1_12 := Lib.hid (A1_11.out.kp k12); have A2_12 := Lib.hid (A2_11.out.kp k12); have A3_12 := Lib.hid (A3_11.out.kp k12); have A4_12 := Lib.hid (A4_11.out.kp k12); clear T_11 Z_11 Vx_11 Bx_11 A1_11 A2_11 A3_11 A4_11; have A5_12 := Lib.hid hA5; clear hA5 k12; obtain ⟨xz0, xz1, xz2⟩ := T_12.out.ra.cells; obtain ⟨xg0, xg1, xg2, _⟩ := Bx_12.out.cells)
      | (go_at_call 53; (with_reducible refine (CU2.out _ _ Vx_12.out).mono ?_); rintro e w13 ⟨vA6, rfl, hA6, k13⟩; have T_13 := Lib.hid (T_12.out.kp k13); have Z_13 := Lib.hid (Z_12.out.kp k13); have Vx_13 := Lib.hid (Vx_12.out.kp k13); have Bx_13 := Lib.hid (Bx_12.out.kp k13); have A1_13 := Lib.hid (A1_12.out.kp k13); have A2_13 := Lib.hid (A2_12.out.kp k13); have A3_13 := Lib.hid (A3_12.out.kp k13); have A4_13 := Lib.hid (A4_12.out.kp k13); have A5_13 := Lib.hid (A5_12.out.kp k13); clear T_12 Z_12 Vx_12 Bx_12 A1_12 A2_12 A3_12 A4_12 A5_12; have A6_13 := Lib.hid hA6; clear hA6 k13; obtain ⟨xz0, xz1, xz2⟩ := T_13.out.ra.cells; obtain ⟨xg0, xg1, xg2, _⟩ := Bx_13.out.cells)
      | (go_at_call 19; (with_reducible refine (CS3.out _ _ _ A5_13.out A6_13.out).mono ?_); rintro e w14 ⟨rfl, k14⟩; have T_14 := Lib.hid (T_13.out.kp k14); have Z_14 := Lib.hid (Z_13.out.kp k14); have Vx_14 := Lib.hid (Vx_13.out.kp k14); have Bx_14 := Lib.hid (Bx_13.out.kp k14); have A1_14 := Lib.hid (A1_13.out.kp k14); have A2_14 := Lib.hid (A2_13.out.kp k14); have A3_14 := Lib.hid (A3_13.out.kp k14); have A4_14 := Lib.hid (A4_13.out.kp k14); have A5_14 := Lib.hid (A5_13.out.kp k14); have A6_14 := Lib.hid (A6_13.out.kp k14); clear T_13 Z_13 Vx_13 Bx_13 A1_13 A2_13 A3_13 A4_13 A5_13 A6_13; clear k14; obtain ⟨xz0, xz1, xz2⟩ := T_14.out.ra.cells; obtain ⟨xg0, xg1, xg2, _⟩ := Bx_14.out.cells)
      | (go_at_call 54; (with_reducible refine (CB1.out _ _ Vx_14.out).mono ?_); rintro e w15 ⟨rfl, k15⟩; have T_15 := Lib.hid (T_14.out.kp k15); have Z_15 := Lib.hid (Z_14.out.kp k15); have Vx_15 := Lib.hid (Vx_14.out.kp k15); have Bx_15 := Lib.hid (Bx_14.out.kp k15); have A1_15 := Lib.hid (A1_14.out.kp k15); have A2_15 := Lib.hid (A2_14.out.kp k15); have A3_15 := Lib.hid (A3_14.out.kp k15); have A4_15 := Lib.hid (A4_14.out.kp k15); have A5_15 := Lib.hid (A5_14.out.kp k15); have A6_15 := Lib.hid (A6_14.out.kp k15); clear T_14 Z_14 Vx_14 Bx_14 A1_14 A2_14 A3_14 A4_14 A5_14 A6_14; clear k15; obtain ⟨xz0, xz1, xz2⟩ := T_15.out.ra.cells; obtain ⟨xg0, xg1, xg2, _⟩ := Bx_15.out.cells)
      | (go_at_call 55; (with_reducible refine (CB2.out _ _ Vx_15.out).mono ?_); rintro e w16 ⟨rfl, k16⟩; have T_16 := Lib.hid (T_15.out.kp k16); have Z_16 := Lib.hid (Z_15.out.kp k16); have Vx_16 := Lib.hid (Vx_15.out.kp k16); have Bx_16 := Lib.hid (Bx_15.out.kp k16); have A1_16 := Lib.hid (A1_15.out.kp k16); have A2_16 := Lib.hid (A2_15.out.kp k16); have A3_16 := Lib.hid (A3_15.out.kp k16); have A4_16 := Lib.hid (A4_15.out.kp k16); have A5_16 := Lib.hid (A5_15.out.kp k16); have A6_16 := Lib.hid (A6_15.out.kp k16); clear T_15 Z_15 Vx_15 Bx_15 A1_15 A2_15 A3_15 A4_15 A5_15 A6_15; clear k16; obtain ⟨xz0, xz1, xz2⟩ := T_16.out.ra.cells; obtain ⟨xg0, xg1, xg2, _⟩ := Bx_16.out.cells)
      | (go_at_call 14; (with_reducible refine (CAW.out _ T_16.out.k Z_16.out).mono ?_); rintro e w17 ⟨rfl, k17⟩; have T_17 := Lib.hid (T_16.out.kp k17); have Z_17 := Lib.hid (Z_16.out.kp k17); have Vx_17 := Lib.hid (Vx_16.out.kp k17); have Bx_17 := Lib.hid (Bx_16.out.kp k17); have A1_17 := Lib.hid (A1_16.out.kp k17); have A2_17 := Lib.hid (A2_16.out.kp k17); have A3_17 := Lib.hid (A3_16.out.kp k17); have A4_17 := Lib.hid (A4_16.out.kp k17); have A5_17 := Lib.hid (A5_16.out.kp k17); have A6_17 := Lib.hid (A6_16.out.kp k17); clear T_16 Z_16 Vx_16 Bx_16 A1_16 A2_16 A3_16 A4_16 A5_16 A6_16; clear k17; obtain ⟨xz0, xz1, xz2⟩ := T_17.out.ra.cells; obtain ⟨xg0, xg1, xg2, _⟩ := Bx_17.out.cells))
  go_wp2
  go_ret
  exact ⟨rfl, T_17.out.k⟩

set_option maxRecDepth 20000 in
set_option maxHeartbeats 4000000 in
theorem rounds_huge {w : World} {sa : Bool} {ua ub : Value} {n1 d1 : List Nat} (hua : Rd w ua n1) (hub : Rd w ub d1) (k : Int) (hk : 4096 < k) (hl : (n1.length ≤ 16 ∧ d1.length ≤ 16)) (htab : Lib.TabIs Tryz.prog w "internal/strconv.uint64pow10" .u64 Lib.pow10Tab) (hZ : Tz w) :
    Calls Tryz.prog 7 #[.agg #[.bool sa, ua, ub], .int .i64 k] w fun e w' => e = .returned (.bool true) ∧ Kp w w' := by
  have HTB := Lib.hid (Lib.tabBelow_of_tabIs htab)
  have HZ := Lib.hid hZ
  have CAW := Lib.hid (fun w' (kk : Kp w w') (t : Tz w') => qawake_any w' t (tabKp HTB.out kk))
  have hl1 := hl
  have CL1 := Lib.hid (fun w' (kk : Kp w w') => qlight_yes (s := sa) (hua.kp kk) (hub.kp kk) hl1)
  have CN1 := Lib.hid (fun w' (kk : Kp w w') => number_any (s := sa) (hua.kp kk) (hub.kp kk) hl1.1 hl1.2)
  have Sx : RSz 16 (numR sa n1 d1) := rsz_num hua hub hl1.1 hl1.2
  obtain ⟨Xx, hXx⟩ : ∃ X, X = (numR sa n1 d1) := ⟨_, rfl⟩
  rw [← hXx] at CN1 Sx
  clear hXx
  obtain ⟨xo1, xl1, xc1, rfl⟩ := rd_slice hua
  obtain ⟨xo2, xl2, xc2, rfl⟩ := rd_slice hub
  have HT := Lib.hid (Rw1.new w (.bool sa) (.slice xo1 xl1 xc1) (.slice xo2 xl2 xc2))
  have t1 : decide (200 < k) = true := decide_eq_true (by omega)
  have t2 : decide (k ≤ 4096) = false := decide_eq_false (by omega)
  have CF1 := Lib.hid (fun w' a (ha : RatV w' a (Xx)) (t : Tz w') => qfloor_any ha Sx (by omega) t)
  have CF2 := Lib.hid (fun w' a (ha : RatV w' a (Xx)) => rqfloor_any ha Sx (by omega))
  have CS1 := Lib.hid (fun w' a b (ha : RatV w' a ((Xx.floor : Rat))) (hb : RatV w' b ((Xx.floor : Rat))) => by have h := rqsame_any ha hb; rw [decide_eq_true (show ((Xx.floor : Rat)) = ((Xx.floor : Rat)) from rfl)] at h; exact h)
  have CD1 := Lib.hid (fun w' a (ha : RatV w' a (Xx)) (t : Tz w') => qdown_any ha k Sx (by omega) t)
  have CD2 := Lib.hid (fun w' a (ha : RatV w' a (Xx)) => rqdown_any ha k Sx (by omega))
  have CS2 := Lib.hid (fun w' a b (ha : RatV w' a (downR Xx (scaleQ k))) (hb : RatV w' b (downR Xx (scaleK k))) => by have h := rqsame_any ha hb; rw [decide_eq_true (show (downR Xx (scaleQ k)) = (downR Xx (scaleK k)) from rfl)] at h; exact h)
  have CU1 := Lib.hid (fun w' a (ha : RatV w' a (Xx)) (t : Tz w') => qup_any ha k Sx (by omega) t)
  have CU2 := Lib.hid (fun w' a (ha : RatV w' a (Xx)) => rqup_any ha k Sx (by omega))
  have CS3 := Lib.hid (fun w' a b (ha : RatV w' a (upR Xx (scaleQ k))) (hb : RatV w' b (upR Xx (scaleK k))) => by have h := rqsame_any ha hb; rw [decide_eq_true (show (upR Xx (scaleQ k)) = (upR Xx (scaleK k)) from rfl)] at h; exact h)
  have CB1 := Lib.hid (fun w' a (ha : RatV w' a (Xx)) => qbits_any ha Sx (by omega))
  have CB2 := Lib.hid (fun w' a (ha : RatV w' a (Xx)) => rqbits_any ha Sx (by omega))
  obtain ⟨bb, hbb⟩ : ∃ b : Nat, b = max (bitsN Xx.num.natAbs) (bitsN Xx.den) := ⟨_, rfl⟩
  rw [← hbb] at CB1 CB2
  clear hbb hk
  clear hua hub hl1 Sx htab hZ
  go_enter Tryz.func7, Tryz.ntmps7
  have Z_e := Lib.hid (HZ.out.kp HT.out.k)
  obtain ⟨xz0, xz1, xz2⟩ := HT.out.ra.cells
  go_wp2_with (go_at_call 13; (with_reducible refine (CL1.out _ HT.out.k).mono ?_); rintro e w2 ⟨rfl, k2⟩; refine Hid.out ?_)
  refine Lib.hid ?_
  have T_2 := Lib.hid (HT.out.kp k2)
  have Z_2 := Lib.hid (Z_e.out.kp k2)
  clear HT Z_e
  clear k2
  obtain ⟨xz0, xz1, xz2⟩ := T_2.out.ra.cells
  go_wp2_with (go_at_call 24; (with_reducible refine (CN1.out _ T_2.out.k).mono ?_); rintro e w3 ⟨vx, rfl, hx, k3⟩; refine Hid.out ?_)
  refine Lib.hid ?_
  have T_3 := Lib.hid (T_2.out.kp k3)
  have Z_3 := Lib.hid (Z_2.out.kp k3)
  clear T_2 Z_2
  clear k3
  obtain ⟨xs, xq1, xr1, xs1, xq2, xr2, xs2, rfl⟩ := hx.lit
  have Vx_l := Lib.hid hx
  have Bx_l := Lib.hid (Res.new w3 (.bool xs) (.slice xq1 xr1 xs1) (.slice xq2 xr2 xs2))
  clear hx
  have T_4 := Lib.hid (T_3.out.kp (Kp.alloc _ (Obj.cells #[Value.bool xs, Value.slice xq1 xr1 xs1, Value.slice xq2 xr2 xs2] 27)))
  have Z_4 := Lib.hid (Z_3.out.kp (Kp.alloc _ (Obj.cells #[Value.bool xs, Value.slice xq1 xr1 xs1, Value.slice xq2 xr2 xs2] 27)))
  have Vx_4 := Lib.hid (Vx_l.out.kp (Kp.alloc _ (Obj.cells #[Value.bool xs, Value.slice xq1 xr1 xs1, Value.slice xq2 xr2 xs2] 27)))
  clear T_3 Z_3 Vx_l
  obtain ⟨xz0, xz1, xz2⟩ := T_4.out.ra.cells
  obtain ⟨xg0, xg1, xg2, _⟩ := Bx_l.out.cells
  go_upto_region 4 with fail
  have T_5 := Lib.hid (T_4.out.kp (Below.refl _ _).drew)
  have Z_5 := Lib.hid (Z_4.out.kp (Below.refl _ _).drew)
  have Vx_5 := Lib.hid (Vx_4.out.kp (Below.refl _ _).drew)
  have Bx_5 := Lib.hid (Bx_l.out.kp (Below.refl _ _).drew)
  clear T_4 Z_4 Vx_4 Bx_l
  go_region_held3 (fun w' => w'.cell? ⟨w3.heap.size, 0, none⟩ = some (.bool xs) ∧ w'.cell? ⟨w3.heap.size, 1, none⟩ = some (.slice xq1 xr1 xs1) ∧ w'.cell? ⟨w3.heap.size, 2, none⟩ = some (.slice xq2 xr2 xs2))
    (first | (refine ⟨?_, ?_, ?_⟩ <;> assumption) | go_keep)
    (first
      | (go_at_call 48; (with_reducible refine (CF1.out _ _ Vx_5.out Z_5.out).mono ?_); rintro e w6 ⟨vA1, rfl, hA1, k6⟩; have T_6 := Lib.hid (T_5.out.kp k6); have Z_6 := Lib.hid (Z_5.out.kp k6); have Vx_6 := Lib.hid (Vx_5.out.kp k6); have Bx_6 := Lib.hid (Bx_5.out.kp k6); clear T_5 Z_5 Vx_5 Bx_5; have A1_6 := Lib.hid hA1; clear hA1 k6; obtain ⟨xz0, xz1, xz2⟩ := T_6.out.ra.cells; obtain ⟨xg0, xg1, xg2, _⟩ := Bx_6.out.cells)
      | (go_at_call 49; (with_reducible refine (CF2.out _ _ Vx_6.out).mono ?_); rintro e w7 ⟨vA2, rfl, hA2, k7⟩; have T_7 := Lib.hid (T_6.out.kp k7); have Z_7 := Lib.hid (Z_6.out.kp k7); have Vx_7 := Lib.hid (Vx_6.out.kp k7); have Bx_7 := Lib.hid (Bx_6.out.kp k7); have A1_7 := Lib.hid (A1_6.out.kp k7); clear T_6 Z_6 Vx_6 Bx_6 A1_6; have A2_7 := Lib.hid hA2; clear hA2 k7; obtain ⟨xz0, xz1, xz2⟩ := T_7.out.ra.cells; obtain ⟨xg0, xg1, xg2, _⟩ := Bx_7.out.cells)
      | (go_at_call 19; (with_reducible refine (CS1.out _ _ _ A1_7.out A2_7.out).mono ?_); rintro e w8 ⟨rfl, k8⟩; have T_8 := Lib.hid (T_7.out.kp k8); have Z_8 := Lib.hid (Z_7.out.kp k8); have Vx_8 := Lib.hid (Vx_7.out.kp k8); have Bx_8 := Lib.hid (Bx_7.out.kp k8); have A1_8 := Lib.hid (A1_7.out.kp k8); have A2_8 := Lib.hid (A2_7.out.kp k8); clear T_7 Z_7 Vx_7 Bx_7 A1_7 A2_7; clear k8; obtain ⟨xz0, xz1, xz2⟩ := T_8.out.ra.cells; obtain ⟨xg0, xg1, xg2, _⟩ := Bx_8.out.cells)
      | (go_at_call 50; (with_reducible refine (CD1.out _ _ Vx_8.out Z_8.out).mono ?_); rintro e w9 ⟨vA3, rfl, hA3, k9⟩; have T_9 := Lib.hid (T_8.out.kp k9); have Z_9 := Lib.hid (Z_8.out.kp k9); have Vx_9 := Lib.hid (Vx_8.out.kp k9); have Bx_9 := Lib.hid (Bx_8.out.kp k9); have A1_9 := Lib.hid (A1_8.out.kp k9); have A2_9 := Lib.hid (A2_8.out.kp k9); clear T_8 Z_8 Vx_8 Bx_8 A1_8 A2_8; have A3_9 := Lib.hid hA3; clear hA3 k9; obtain ⟨xz0, xz1, xz2⟩ := T_9.out.ra.cells; obtain ⟨xg0, xg1, xg2, _⟩ := Bx_9.out.cells)
      | (go_at_call 51; (with_reducible refine (CD2.out _ _ Vx_9.out).mono ?_); rintro e w10 ⟨vA4, rfl, hA4, k10⟩; have T_10 := Lib.hid (T_9.out.kp k10); have Z_10 := Lib.hid (Z_9.out.kp k10); have Vx_10 := Lib.hid (Vx_9.out.kp k10); have Bx_10 := Lib.hid (Bx_9.out.kp k10); have A1_10 := Lib.hid (A1_9.out.kp k10); have A2_10 := Lib.hid (A2_9.out.kp k10); have A3_10 := Lib.hid (A3_9.out.kp k10); clear T_9 Z_9 Vx_9 Bx_9 A1_9 A2_9 A3_9; have A4_10 := Lib.hid hA4; clear hA4 k10; obtain ⟨xz0, xz1, xz2⟩ := T_10.out.ra.cells; obtain ⟨xg0, xg1, xg2, _⟩ := Bx_10.out.cells)
      | (go_at_call 19; (with_reducible refine (CS2.out _ _ _ A3_10.out A4_10.out).mono ?_); rintro e w11 ⟨rfl, k11⟩; have T_11 := Lib.hid (T_10.out.kp k11); have Z_11 := Lib.hid (Z_10.out.kp k11); have Vx_11 := Lib.hid (Vx_10.out.kp k11); have Bx_11 := Lib.hid (Bx_10.out.kp k11); have A1_11 := Lib.hid (A1_10.out.kp k11); have A2_11 := Lib.hid (A2_10.out.kp k11); have A3_11 := Lib.hid (A3_10.out.kp k11); have A4_11 := Lib.hid (A4_10.out.kp k11); clear T_10 Z_10 Vx_10 Bx_10 A1_10 A2_10 A3_10 A4_10; clear k11; obtain ⟨xz0, xz1, xz2⟩ := T_11.out.ra.cells; obtain ⟨xg0, xg1, xg2, _⟩ := Bx_11.out.cells)
      | (go_at_call 52; (with_reducible refine (CU1.out _ _ Vx_11.out Z_11.out).mono ?_); rintro e w12 ⟨vA5, rfl, hA5, k12⟩; have T_12 := Lib.hid (T_11.out.kp k12); have Z_12 := Lib.hid (Z_11.out.kp k12); have Vx_12 := Lib.hid (Vx_11.out.kp k12); have Bx_12 := Lib.hid (Bx_11.out.kp k12); have A1_12 := Lib.hid (A1_11.out.kp k12); have A2_12 := Lib.hid (A2_11.out.kp k12); have A3_12 := Lib.hid (A3_11.out.kp k12); have A4_12 := Lib.hid (A4_11.out.kp k12); clear T_11 Z_11 Vx_11 Bx_11 A1_11 A2_11 A3_11 A4_11; have A5_12 := Lib.hid hA5; clear hA5 k12; obtain ⟨xz0, xz1, xz2⟩ := T_12.out.ra.cells; obtain ⟨xg0, xg1, xg2, _⟩ := Bx_12.out.cells)
      | (go_at_call 53; (with_reducible refine (CU2.out _ _ Vx_12.out).mono ?_); rintro e w13 ⟨vA6, rfl, hA6, k13⟩; have T_13 := Lib.hid (T_12.out.kp k13); have Z_13 := Lib.hid (Z_12.out.kp k13); have Vx_13 := Lib.hid (Vx_12.out.kp k13); have Bx_13 := Lib.hid (Bx_12.out.kp k13); have A1_13 := Lib.hid (A1_12.out.kp k13); have A2_13 := Lib.hid (A2_12.out.kp k13); have A3_13 := Lib.hid (A3_12.out.kp k13); have A4_13 := Lib.hid (A4_12.out.kp k13); have A5_13 := Lib.hid (A5_12.out.kp k13); clear T_12 Z_12 Vx_12 Bx_12 A1_12 A2_12 A3_12 A4_12 A5_12; have A6_13 := Lib.hid hA6; clear hA6 k13; obtain ⟨xz0, xz1, xz2⟩ := T_13.out.ra.cells; obtain ⟨xg0, xg1, xg2, _⟩ := Bx_13.out.cells)
      | (go_at_call 19; (with_reducible refine (CS3.out _ _ _ A5_13.out A6_13.out).mono ?_); rintro e w14 ⟨rfl, k14⟩; have T_14 := Lib.hid (T_13.out.kp k14); have Z_14 := Lib.hid (Z_13.out.kp k14); have Vx_14 := Lib.hid (Vx_13.out.kp k14); have Bx_14 := Lib.hid (Bx_13.out.kp k14); have A1_14 := Lib.hid (A1_13.out.kp k14); have A2_14 := Lib.hid (A2_13.out.kp k14); have A3_14 := Lib.hid (A3_13.out.kp k14); have A4_14 := Lib.hid (A4_13.out.kp k14); have A5_14 := Lib.hid (A5_13.out.kp k14); have A6_14 := Lib.hid (A6_13.out.kp k14); clear T_13 Z_13 Vx_13 Bx_13 A1_13 A2_13 A3_13 A4_13 A5_13 A6_13; clear k14; obtain ⟨xz0, xz1, xz2⟩ := T_14.out.ra.cells; obtain ⟨xg0, xg1, xg2, _⟩ := Bx_14.out.cells)
      | (go_at_call 54; (with_reducible refine (CB1.out _ _ Vx_14.out).mono ?_); rintro e w15 ⟨rfl, k15⟩; have T_15 := Lib.hid (T_14.out.kp k15); have Z_15 := Lib.hid (Z_14.out.kp k15); have Vx_15 := Lib.hid (Vx_14.out.kp k15); have Bx_15 := Lib.hid (Bx_14.out.kp k15); have A1_15 := Lib.hid (A1_14.out.kp k15); have A2_15 := Lib.hid (A2_14.out.kp k15); have A3_15 := Lib.hid (A3_14.out.kp k15); have A4_15 := Lib.hid (A4_14.out.kp k15); have A5_15 := Lib.hid (A5_14.out.kp k15); have A6_15 := Lib.hid (A6_14.out.kp k15); clear T_14 Z_14 Vx_14 Bx_14 A1_14 A2_14 A3_14 A4_14 A5_14 A6_14; clear k15; obtain ⟨xz0, xz1, xz2⟩ := T_15.out.ra.cells; obtain ⟨xg0, xg1, xg2, _⟩ := Bx_15.out.cells)
      | (go_at_call 55; (with_reducible refine (CB2.out _ _ Vx_15.out).mono ?_); rintro e w16 ⟨rfl, k16⟩; have T_16 := Lib.hid (T_15.out.kp k16); have Z_16 := Lib.hid (Z_15.out.kp k16); have Vx_16 := Lib.hid (Vx_15.out.kp k16); have Bx_16 := Lib.hid (Bx_15.out.kp k16); have A1_16 := Lib.hid (A1_15.out.kp k16); have A2_16 := Lib.hid (A2_15.out.kp k16); have A3_16 := Lib.hid (A3_15.out.kp k16); have A4_16 := Lib.hid (A4_15.out.kp k16); have A5_16 := Lib.hid (A5_15.out.kp k16); have A6_16 := Lib.hid (A6_15.out.kp k16); clear T_15 Z_15 Vx_15 Bx_15 A1_15 A2_15 A3_15 A4_15 A5_15 A6_15; clear k16; obtain ⟨xz0, xz1, xz2⟩ := T_16.out.ra.cells; obtain ⟨xg0, xg1, xg2, _⟩ := Bx_16.out.cells)
      | (go_at_call 14; (with_reducible refine (CAW.out _ T_16.out.k Z_16.out).mono ?_); rintro e w17 ⟨rfl, k17⟩; have T_17 := Lib.hid (T_16.out.kp k17); have Z_17 := Lib.hid (Z_16.out.kp k17); have Vx_17 := Lib.hid (Vx_16.out.kp k17); have Bx_17 := Lib.hid (Bx_16.out.kp k17); have A1_17 := Lib.hid (A1_16.out.kp k17); have A2_17 := Lib.hid (A2_16.out.kp k17); have A3_17 := Lib.hid (A3_16.out.kp k17); have A4_17 := Lib.hid (A4_16.out.kp k17); have A5_17 := Lib.hid (A5_16.out.kp k17); have A6_17 := Lib.hid (A6_16.out.kp k17); clear T_16 Z_16 Vx_16 Bx_16 A1_16 A2_16 A3_16 A4_16 A5_16 A6_16; clear k17; obtain ⟨xz0, xz1, xz2⟩ := T_17.out.ra.cells; obtain ⟨xg0, xg1, xg2, _⟩ := Bx_17.out.cells))
  go_wp2
  go_ret
  exact ⟨rfl, T_17.out.k⟩

theorem rounds_walk {s : Bool} {a b : Value} {xs ys : List Nat} {k : Int} {w : World} (ha : Rd w a xs) (hb : Rd w b ys) (htab : Lib.TabIs Tryz.prog w "internal/strconv.uint64pow10" .u64 Lib.pow10Tab) (hZ : Tz w) :
    Calls Tryz.prog 7 #[.agg #[.bool s, a, b], .int .i64 k] w fun e w' => e = .returned (.bool true) ∧ Kp w w' := by
  by_cases hl : xs.length ≤ 16 ∧ ys.length ≤ 16
  · by_cases h1 : k ≤ 200
    · exact rounds_small ha hb k h1 hl htab hZ
    · by_cases h2 : k ≤ 4096
      · exact rounds_great ha hb k ⟨by omega, h2⟩ hl htab hZ
      · exact rounds_huge ha hb k (by omega) hl htab hZ
  · exact rounds_no1 ha hb k hl htab hZ
end Go.Proofs.YtnhekpghpmmggaaGreatDoor
