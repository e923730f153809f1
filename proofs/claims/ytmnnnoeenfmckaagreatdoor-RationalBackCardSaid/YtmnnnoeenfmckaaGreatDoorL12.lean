/-
  brepkernellaw02.RationalBack: by the contracts.
-/
import Derived.Test.YtmnnnoeenfmckaaGreatDoorReg
import Derived.Test.YtmnnnoeenfmckaaGreatDoorRw
import Derived.Test.YtmnnnoeenfmckaaGreatDoorBq
import Derived.Test.YtmnnnoeenfmckaaGreatDoorBk
import Derived.Test.YtmnnnoeenfmckaaGreatDoorQg2
import Derived.Test.YtmnnnoeenfmckaaGreatDoorPt
namespace Go.Proofs.YtmnnnoeenfmckaaGreatDoor
open Go.RowKit

set_option maxRecDepth 20000 in
set_option maxHeartbeats 4000000 in
theorem back_no1 {w : World} {sa : Bool} {ua ub : Value} {n1 d1 : List Nat} (hua : Rd w ua n1) (hub : Rd w ub d1) (hn : ¬ (n1.length ≤ 16 ∧ d1.length ≤ 16)) (htab : Lib.TabIs Tryz.prog w "internal/strconv.uint64pow10" .u64 Lib.pow10Tab) (hZ : Tz w) :
    Calls Tryz.prog 12 #[.agg #[.bool sa, ua, ub]] w fun e w' => e = .returned (.bool true) ∧ Kp w w' := by
  have HTB := Lib.hid (Lib.tabBelow_of_tabIs htab)
  have HZ := Lib.hid hZ
  have CAW := Lib.hid (fun w' (kk : Kp w w') (t : Tz w') => qawake_any w' t (tabKp HTB.out kk))
  have CL1 := Lib.hid (fun w' (kk : Kp w w') => qlight_no (s := sa) (hua.kp kk) (hub.kp kk) hn)
  obtain ⟨xo1, xl1, xc1, rfl⟩ := rd_slice hua
  obtain ⟨xo2, xl2, xc2, rfl⟩ := rd_slice hub
  have HT := Lib.hid (Rw1.new w (.bool sa) (.slice xo1 xl1 xc1) (.slice xo2 xl2 xc2))
  clear hua hub htab hZ hn
  go_enter Tryz.func12, Tryz.ntmps12
  have Z_e := Lib.hid (HZ.out.kp HT.out.k)
  obtain ⟨xz0, xz1, xz2⟩ := HT.out.ra.cells
  go_wp2_with (go_at_call 13; (with_reducible refine (CL1.out _ HT.out.k).mono ?_); rintro e w2 ⟨rfl, k2⟩; refine Hid.out ?_)
  refine Lib.hid ?_
  have T_2 := Lib.hid (HT.out.kp k2)
  have Z_2 := Lib.hid (Z_e.out.kp k2)
  clear HT Z_e
  clear k2
  obtain ⟨xz0, xz1, xz2⟩ := T_2.out.ra.cells
  go_wp2_with (go_at_call 14; (with_reducible refine (CAW.out _ T_2.out.k Z_2.out).mono ?_); rintro e w3 ⟨rfl, k3⟩; refine Hid.out ?_)
  refine Lib.hid ?_
  have T_3 := Lib.hid (T_2.out.kp k3)
  have Z_3 := Lib.hid (Z_2.out.kp k3)
  clear T_2 Z_2
  clear k3
  obtain ⟨xz0, xz1, xz2⟩ := T_3.out.ra.cells
  go_wp2
  go_ret
  exact ⟨rfl, T_3.out.k⟩

set_option maxRecDepth 20000 in
set_option maxHeartbeats 4000000 in
theorem back_yes {w : World} {sa : Bool} {ua ub : Value} {n1 d1 : List Nat} (hua : Rd w ua n1) (hub : Rd w ub d1) (hl : (n1.length ≤ 16 ∧ d1.length ≤ 16)) (htab : Lib.TabIs Tryz.prog w "internal/strconv.uint64pow10" .u64 Lib.pow10Tab) (hZ : Tz w) :
    Calls Tryz.prog 12 #[.agg #[.bool sa, ua, ub]] w fun e w' => e = .returned (.bool true) ∧ Kp w w' := by
  have HTB := Lib.hid (Lib.tabBelow_of_tabIs htab)
  have HZ := Lib.hid hZ
  have CAW := Lib.hid (fun w' (kk : Kp w w') (t : Tz w') => qawake_any w' t (tabKp HTB.out kk))
  have hl1 := hl
  have CL1 := Lib.hid (fun w' (kk : Kp w w') => qlight_yes (s := sa) (hua.kp kk) (hub.kp kk) hl1)
  have CN1 := Lib.hid (fun w' (kk : Kp w w') => number_any (s := sa) (hua.kp kk) (hub.kp kk) hl1.1 hl1.2)
  have Sx : RSz 16 (numR sa n1 d1) := rsz_num hua hub hl1.1 hl1.2
  obtain ⟨Xx, hXx⟩ : ∃ X, X = (numR sa n1 d1) := ⟨_, rfl⟩
  rw [← hXx] at CN1 Sx
  clear hXx
  obtain ⟨xo1, xl1, xc1, rfl⟩ := rd_slice hua
  obtain ⟨xo2, xl2, xc2, rfl⟩ := rd_slice hub
  have HT := Lib.hid (Rw1.new w (.bool sa) (.slice xo1 xl1 xc1) (.slice xo2 xl2 xc2))
  have CT1 := Lib.hid (fun w' (kk : Kp w w') a (ha : RatV w' a Xx) => qtext_any ha Sx (by omega) (tabKp HTB.out kk))
  have hpt := parse_text Sx (by decide)
  obtain ⟨TX, hTX⟩ : ∃ s : ByteArray, s = ⟨(textR Xx).toArray⟩ := ⟨_, rfl⟩
  rw [← hTX] at CT1
  have hpt2 : parseR TX.data.toList = (0, Xx) := by rw [hTX]; exact hpt
  have CP1 := Lib.hid (fun w' (tz : Tz w') => qparse_all (w := w') TX tz)
  rw [hpt2] at CP1
  clear hTX hpt hpt2
  have CS := Lib.hid (fun w' a b (ha : RatV w' a Xx) (hb : RatV w' b Xx) => by have h := rsame_any ha hb; rw [decide_eq_true (show Xx = Xx from rfl)] at h; exact h)
  clear hua hub hl1 Sx htab hZ
  go_enter Tryz.func12, Tryz.ntmps12
  have Z_e := Lib.hid (HZ.out.kp HT.out.k)
  obtain ⟨xz0, xz1, xz2⟩ := HT.out.ra.cells
  go_wp2_with (go_at_call 13; (with_reducible refine (CL1.out _ HT.out.k).mono ?_); rintro e w2 ⟨rfl, k2⟩; refine Hid.out ?_)
  refine Lib.hid ?_
  have T_2 := Lib.hid (HT.out.kp k2)
  have Z_2 := Lib.hid (Z_e.out.kp k2)
  clear HT Z_e
  clear k2
  obtain ⟨xz0, xz1, xz2⟩ := T_2.out.ra.cells
  go_wp2_with (go_at_call 24; (with_reducible refine (CN1.out _ T_2.out.k).mono ?_); rintro e w3 ⟨vx, rfl, hx, k3⟩; refine Hid.out ?_)
  refine Lib.hid ?_
  have T_3 := Lib.hid (T_2.out.kp k3)
  have Z_3 := Lib.hid (Z_2.out.kp k3)
  clear T_2 Z_2
  clear k3
  obtain ⟨xs, xq1, xr1, xs1, xq2, xr2, xs2, rfl⟩ := hx.lit
  have Vx_l := Lib.hid hx
  have Bx_l := Lib.hid (Res.new w3 (.bool xs) (.slice xq1 xr1 xs1) (.slice xq2 xr2 xs2))
  clear hx
  have T_4 := Lib.hid (T_3.out.kp (Kp.alloc _ (Obj.cells #[Value.bool xs, Value.slice xq1 xr1 xs1, Value.slice xq2 xr2 xs2] 27)))
  have Z_4 := Lib.hid (Z_3.out.kp (Kp.alloc _ (Obj.cells #[Value.bool xs, Value.slice xq1 xr1 xs1, Value.slice xq2 xr2 xs2] 27)))
  have Vx_4 := Lib.hid (Vx_l.out.kp (Kp.alloc _ (Obj.cells #[Value.bool xs, Value.slice xq1 xr1 xs1, Value.slice xq2 xr2 xs2] 27)))
  clear T_3 Z_3 Vx_l
  obtain ⟨xz0, xz1, xz2⟩ := T_4.out.ra.cells
  obtain ⟨xg0, xg1, xg2, _⟩ := Bx_l.out.cells
  go_wp2_with (go_at_call 58; (with_reducible refine (CT1.out _ T_4.out.k _ Vx_4.out).mono ?_); rintro e w5 ⟨rfl, k5⟩; refine Hid.out ?_)
  refine Lib.hid ?_
  have T_5 := Lib.hid (T_4.out.kp k5)
  have Z_5 := Lib.hid (Z_4.out.kp k5)
  have Vx_5 := Lib.hid (Vx_4.out.kp k5)
  have Bx_5 := Lib.hid (Bx_l.out.kp k5)
  clear T_4 Z_4 Vx_4 Bx_l
  clear k5
  obtain ⟨xz0, xz1, xz2⟩ := T_5.out.ra.cells
  obtain ⟨xg0, xg1, xg2, _⟩ := Bx_5.out.cells
  go_wp2_with (go_at_call 56; (with_reducible refine (CP1.out _ Z_5.out).mono ?_); rintro e w6 ⟨vp, rfl, hp, k6⟩; refine Hid.out ?_)
  refine Lib.hid ?_
  have T_6 := Lib.hid (T_5.out.kp k6)
  have Z_6 := Lib.hid (Z_5.out.kp k6)
  have Vx_6 := Lib.hid (Vx_5.out.kp k6)
  have Bx_6 := Lib.hid (Bx_5.out.kp k6)
  clear T_5 Z_5 Vx_5 Bx_5
  clear k6
  obtain ⟨ps, pq1, pr1, ps1, pq2, pr2, ps2, rfl⟩ := hp.lit
  have Vp_l := Lib.hid hp
  have Bp_l := Lib.hid (Res.new w6 (.bool ps) (.slice pq1 pr1 ps1) (.slice pq2 pr2 ps2))
  clear hp
  have T_7 := Lib.hid (T_6.out.kp (Kp.alloc _ (Obj.cells #[Value.bool ps, Value.slice pq1 pr1 ps1, Value.slice pq2 pr2 ps2] 27)))
  have Z_7 := Lib.hid (Z_6.out.kp (Kp.alloc _ (Obj.cells #[Value.bool ps, Value.slice pq1 pr1 ps1, Value.slice pq2 pr2 ps2] 27)))
  have Vx_7 := Lib.hid (Vx_6.out.kp (Kp.alloc _ (Obj.cells #[Value.bool ps, Value.slice pq1 pr1 ps1, Value.slice pq2 pr2 ps2] 27)))
  have Bx_7 := Lib.hid (Bx_6.out.kp (Kp.alloc _ (Obj.cells #[Value.bool ps, Value.slice pq1 pr1 ps1, Value.slice pq2 pr2 ps2] 27)))
  have Vp_7 := Lib.hid (Vp_l.out.kp (Kp.alloc _ (Obj.cells #[Value.bool ps, Value.slice pq1 pr1 ps1, Value.slice pq2 pr2 ps2] 27)))
  clear T_6 Z_6 Vx_6 Bx_6 Vp_l
  obtain ⟨xz0, xz1, xz2⟩ := T_7.out.ra.cells
  obtain ⟨xg0, xg1, xg2, _⟩ := Bx_7.out.cells
  obtain ⟨pg0, pg1, pg2, _⟩ := Bp_l.out.cells
  go_wp2_with (go_at_call 33; (with_reducible refine (CS.out _ _ _ Vp_7.out Vx_7.out).mono ?_); rintro e w8 ⟨rfl, k8⟩; refine Hid.out ?_)
  refine Lib.hid ?_
  have T_8 := Lib.hid (T_7.out.kp k8)
  have Z_8 := Lib.hid (Z_7.out.kp k8)
  have Vx_8 := Lib.hid (Vx_7.out.kp k8)
  have Bx_8 := Lib.hid (Bx_7.out.kp k8)
  have Vp_8 := Lib.hid (Vp_7.out.kp k8)
  have Bp_8 := Lib.hid (Bp_l.out.kp k8)
  clear T_7 Z_7 Vx_7 Bx_7 Vp_7 Bp_l
  clear k8
  obtain ⟨xz0, xz1, xz2⟩ := T_8.out.ra.cells
  obtain ⟨xg0, xg1, xg2, _⟩ := Bx_8.out.cells
  obtain ⟨pg0, pg1, pg2, _⟩ := Bp_8.out.cells
  go_wp2_with (go_at_call 14; (with_reducible refine (CAW.out _ T_8.out.k Z_8.out).mono ?_); rintro e w9 ⟨rfl, k9⟩; refine Hid.out ?_)
  refine Lib.hid ?_
  have T_9 := Lib.hid (T_8.out.kp k9)
  have Z_9 := Lib.hid (Z_8.out.kp k9)
  have Vx_9 := Lib.hid (Vx_8.out.kp k9)
  have Bx_9 := Lib.hid (Bx_8.out.kp k9)
  have Vp_9 := Lib.hid (Vp_8.out.kp k9)
  have Bp_9 := Lib.hid (Bp_8.out.kp k9)
  clear T_8 Z_8 Vx_8 Bx_8 Vp_8 Bp_8
  clear k9
  obtain ⟨xz0, xz1, xz2⟩ := T_9.out.ra.cells
  obtain ⟨xg0, xg1, xg2, _⟩ := Bx_9.out.cells
  obtain ⟨pg0, pg1, pg2, _⟩ := Bp_9.out.cells
  go_wp2
  go_ret
  exact ⟨rfl, T_9.out.k⟩

theorem back_walk9 {w : World} {s : Bool} {a b : Value} {xs ys : List Nat} (ha : Rd w a xs) (hb : Rd w b ys) (htab : Lib.TabIs Tryz.prog w "internal/strconv.uint64pow10" .u64 Lib.pow10Tab) (hZ : Tz w) :
    Calls Tryz.prog 12 #[.agg #[.bool s, a, b]] w fun e w' => e = .returned (.bool true) ∧ Kp w w' := by
  by_cases hl : xs.length ≤ 16 ∧ ys.length ≤ 16
  · exact back_yes ha hb hl htab hZ
  · exact back_no1 ha hb hl htab hZ
end Go.Proofs.YtmnnnoeenfmckaaGreatDoor
