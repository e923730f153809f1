/-
  brepkernellaw02.RationalOrder: by the contracts.
-/
import Derived.Test.YtmnnnoeenfmckaaGreatDoorReg
import Derived.Test.YtmnnnoeenfmckaaGreatDoorRw
import Derived.Test.YtmnnnoeenfmckaaGreatDoorBq
import Derived.Test.YtmnnnoeenfmckaaGreatDoorRatR
import Derived.Test.YtmnnnoeenfmckaaGreatDoorBs
import Derived.Test.YtmnnnoeenfmckaaGreatDoorBn
import Derived.Test.YtmnnnoeenfmckaaGreatDoorBo
import Derived.Test.YtmnnnoeenfmckaaGreatDoorBw
namespace Go.Proofs.YtmnnnoeenfmckaaGreatDoor
open Go.RowKit

set_option maxRecDepth 20000 in
set_option maxHeartbeats 4000000 in
theorem order_no1 {w : World} {sa : Bool} {ua ub : Value} {n1 d1 : List Nat} {sb : Bool} {va vb : Value} {n2 d2 : List Nat} {sc : Bool} {wa wb : Value} {n3 d3 : List Nat} (hua : Rd w ua n1) (hub : Rd w ub d1) (hva : Rd w va n2) (hvb : Rd w vb d2) (hwa : Rd w wa n3) (hwb : Rd w wb d3) (hn : ¬ (n1.length ≤ 16 ∧ d1.length ≤ 16)) (htab : Lib.TabIs Tryz.prog w "internal/strconv.uint64pow10" .u64 Lib.pow10Tab) (hZ : Tz w) :
    Calls Tryz.prog 10 #[.agg #[.bool sa, ua, ub], .agg #[.bool sb, va, vb], .agg #[.bool sc, wa, wb]] w fun e w' => e = .returned (.bool true) ∧ Kp w w' := by
  have HTB := Lib.hid (Lib.tabBelow_of_tabIs htab)
  have HZ := Lib.hid hZ
  have CAW := Lib.hid (fun w' (kk : Kp w w') (t : Tz w') => qawake_any w' t (tabKp HTB.out kk))
  have CL1 := Lib.hid (fun w' (kk : Kp w w') => qlight_no (s := sa) (hua.kp kk) (hub.kp kk) hn)
  obtain ⟨xo1, xl1, xc1, rfl⟩ := rd_slice hua
  obtain ⟨xo2, xl2, xc2, rfl⟩ := rd_slice hub
  obtain ⟨yo1, yl1, yc1, rfl⟩ := rd_slice hva
  obtain ⟨yo2, yl2, yc2, rfl⟩ := rd_slice hvb
  obtain ⟨zo1, zl1, zc1, rfl⟩ := rd_slice hwa
  obtain ⟨zo2, zl2, zc2, rfl⟩ := rd_slice hwb
  have HT := Lib.hid (Rw3.new w (.bool sa) (.slice xo1 xl1 xc1) (.slice xo2 xl2 xc2) (.bool sb) (.slice yo1 yl1 yc1) (.slice yo2 yl2 yc2) (.bool sc) (.slice zo1 zl1 zc1) (.slice zo2 zl2 zc2))
  clear hua hub hva hvb hwa hwb htab hZ hn
  go_enter Tryz.func10, Tryz.ntmps10
  have Z_e := Lib.hid (HZ.out.kp HT.out.k)
  obtain ⟨xz0, xz1, xz2⟩ := HT.out.ra.cells
  obtain ⟨yz0, yz1, yz2⟩ := HT.out.rb.cells
  obtain ⟨zz0, zz1, zz2⟩ := HT.out.rc.cells
  go_wp2_with (go_at_call 13; (with_reducible refine (CL1.out _ HT.out.k).mono ?_); rintro e w2 ⟨rfl, k2⟩; refine Hid.out ?_)
  refine Lib.hid ?_
  have T_2 := Lib.hid (HT.out.kp k2)
  have Z_2 := Lib.hid (Z_e.out.kp k2)
  clear HT Z_e
  clear k2
  obtain ⟨xz0, xz1, xz2⟩ := T_2.out.ra.cells
  obtain ⟨yz0, yz1, yz2⟩ := T_2.out.rb.cells
  obtain ⟨zz0, zz1, zz2⟩ := T_2.out.rc.cells
  go_wp2_with (go_at_call 14; (with_reducible refine (CAW.out _ T_2.out.k Z_2.out).mono ?_); rintro e w3 ⟨rfl, k3⟩; refine Hid.out ?_)
  refine Lib.hid ?_
  have T_3 := Lib.hid (T_2.out.kp k3)
  have Z_3 := Lib.hid (Z_2.out.kp k3)
  clear T_2 Z_2
  clear k3
  obtain ⟨xz0, xz1, xz2⟩ := T_3.out.ra.cells
  obtain ⟨yz0, yz1, yz2⟩ := T_3.out.rb.cells
  obtain ⟨zz0, zz1, zz2⟩ := T_3.out.rc.cells
  go_wp2
  go_ret
  exact ⟨rfl, T_3.out.k⟩

set_option maxRecDepth 20000 in
set_option maxHeartbeats 4000000 in
theorem order_no2 {w : World} {sa : Bool} {ua ub : Value} {n1 d1 : List Nat} {sb : Bool} {va vb : Value} {n2 d2 : List Nat} {sc : Bool} {wa wb : Value} {n3 d3 : List Nat} (hua : Rd w ua n1) (hub : Rd w ub d1) (hva : Rd w va n2) (hvb : Rd w vb d2) (hwa : Rd w wa n3) (hwb : Rd w wb d3) (hl1 : n1.length ≤ 16 ∧ d1.length ≤ 16) (hn : ¬ (n2.length ≤ 16 ∧ d2.length ≤ 16)) (htab : Lib.TabIs Tryz.prog w "internal/strconv.uint64pow10" .u64 Lib.pow10Tab) (hZ : Tz w) :
    Calls Tryz.prog 10 #[.agg #[.bool sa, ua, ub], .agg #[.bool sb, va, vb], .agg #[.bool sc, wa, wb]] w fun e w' => e = .returned (.bool true) ∧ Kp w w' := by
  have HTB := Lib.hid (Lib.tabBelow_of_tabIs htab)
  have HZ := Lib.hid hZ
  have CAW := Lib.hid (fun w' (kk : Kp w w') (t : Tz w') => qawake_any w' t (tabKp HTB.out kk))
  have CL1 := Lib.hid (fun w' (kk : Kp w w') => qlight_yes (s := sa) (hua.kp kk) (hub.kp kk) hl1)
  have CL2 := Lib.hid (fun w' (kk : Kp w w') => qlight_no (s := sb) (hva.kp kk) (hvb.kp kk) hn)
  obtain ⟨xo1, xl1, xc1, rfl⟩ := rd_slice hua
  obtain ⟨xo2, xl2, xc2, rfl⟩ := rd_slice hub
  obtain ⟨yo1, yl1, yc1, rfl⟩ := rd_slice hva
  obtain ⟨yo2, yl2, yc2, rfl⟩ := rd_slice hvb
  obtain ⟨zo1, zl1, zc1, rfl⟩ := rd_slice hwa
  obtain ⟨zo2, zl2, zc2, rfl⟩ := rd_slice hwb
  have HT := Lib.hid (Rw3.new w (.bool sa) (.slice xo1 xl1 xc1) (.slice xo2 xl2 xc2) (.bool sb) (.slice yo1 yl1 yc1) (.slice yo2 yl2 yc2) (.bool sc) (.slice zo1 zl1 zc1) (.slice zo2 zl2 zc2))
  clear hua hub hva hvb hwa hwb htab hZ hn hl1
  go_enter Tryz.func10, Tryz.ntmps10
  have Z_e := Lib.hid (HZ.out.kp HT.out.k)
  obtain ⟨xz0, xz1, xz2⟩ := HT.out.ra.cells
  obtain ⟨yz0, yz1, yz2⟩ := HT.out.rb.cells
  obtain ⟨zz0, zz1, zz2⟩ := HT.out.rc.cells
  go_wp2_with (go_at_call 13; (with_reducible refine (CL1.out _ HT.out.k).mono ?_); rintro e w2 ⟨rfl, k2⟩; refine Hid.out ?_)
  refine Lib.hid ?_
  have T_2 := Lib.hid (HT.out.kp k2)
  have Z_2 := Lib.hid (Z_e.out.kp k2)
  clear HT Z_e
  clear k2
  obtain ⟨xz0, xz1, xz2⟩ := T_2.out.ra.cells
  obtain ⟨yz0, yz1, yz2⟩ := T_2.out.rb.cells
  obtain ⟨zz0, zz1, zz2⟩ := T_2.out.rc.cells
  go_wp2_with (go_at_call 13; (with_reducible refine (CL2.out _ T_2.out.k).mono ?_); rintro e w3 ⟨rfl, k3⟩; refine Hid.out ?_)
  refine Lib.hid ?_
  have T_3 := Lib.hid (T_2.out.kp k3)
  have Z_3 := Lib.hid (Z_2.out.kp k3)
  clear T_2 Z_2
  clear k3
  obtain ⟨xz0, xz1, xz2⟩ := T_3.out.ra.cells
  obtain ⟨yz0, yz1, yz2⟩ := T_3.out.rb.cells
  obtain ⟨zz0, zz1, zz2⟩ := T_3.out.rc.cells
  go_wp2_with (go_at_call 14; (with_reducible refine (CAW.out _ T_3.out.k Z_3.out).mono ?_); rintro e w4 ⟨rfl, k4⟩; refine Hid.out ?_)
  refine Lib.hid ?_
  have T_4 := Lib.hid (T_3.out.kp k4)
  have Z_4 := Lib.hid (Z_3.out.kp k4)
  clear T_3 Z_3
  clear k4
  obtain ⟨xz0, xz1, xz2⟩ := T_4.out.ra.cells
  obtain ⟨yz0, yz1, yz2⟩ := T_4.out.rb.cells
  obtain ⟨zz0, zz1, zz2⟩ := T_4.out.rc.cells
  go_wp2
  go_ret
  exact ⟨rfl, T_4.out.k⟩

set_option maxRecDepth 20000 in
set_option maxHeartbeats 4000000 in
theorem order_no3 {w : World} {sa : Bool} {ua ub : Value} {n1 d1 : List Nat} {sb : Bool} {va vb : Value} {n2 d2 : List Nat} {sc : Bool} {wa wb : Value} {n3 d3 : List Nat} (hua : Rd w ua n1) (hub : Rd w ub d1) (hva : Rd w va n2) (hvb : Rd w vb d2) (hwa : Rd w wa n3) (hwb : Rd w wb d3) (hl1 : n1.length ≤ 16 ∧ d1.length ≤ 16) (hl2 : n2.length ≤ 16 ∧ d2.length ≤ 16) (hn : ¬ (n3.length ≤ 16 ∧ d3.length ≤ 16)) (htab : Lib.TabIs Tryz.prog w "internal/strconv.uint64pow10" .u64 Lib.pow10Tab) (hZ : Tz w) :
    Calls Tryz.prog 10 #[.agg #[.bool sa, ua, ub], .agg #[.bool sb, va, vb], .agg #[.bool sc, wa, wb]] w fun e w' => e = .returned (.bool true) ∧ Kp w w' := by
  have HTB := Lib.hid (Lib.tabBelow_of_tabIs htab)
  have HZ := Lib.hid hZ
  have CAW := Lib.hid (fun w' (kk : Kp w w') (t : Tz w') => qawake_any w' t (tabKp HTB.out kk))
  have CL1 := Lib.hid (fun w' (kk : Kp w w') => qlight_yes (s := sa) (hua.kp kk) (hub.kp kk) hl1)
  have CL2 := Lib.hid (fun w' (kk : Kp w w') => qlight_yes (s := sb) (hva.kp kk) (hvb.kp kk) hl2)
  have CL3 := Lib.hid (fun w' (kk : Kp w w') => qlight_no (s := sc) (hwa.kp kk) (hwb.kp kk) hn)
  obtain ⟨xo1, xl1, xc1, rfl⟩ := rd_slice hua
  obtain ⟨xo2, xl2, xc2, rfl⟩ := rd_slice hub
  obtain ⟨yo1, yl1, yc1, rfl⟩ := rd_slice hva
  obtain ⟨yo2, yl2, yc2, rfl⟩ := rd_slice hvb
  obtain ⟨zo1, zl1, zc1, rfl⟩ := rd_slice hwa
  obtain ⟨zo2, zl2, zc2, rfl⟩ := rd_slice hwb
  have HT := Lib.hid (Rw3.new w (.bool sa) (.slice xo1 xl1 xc1) (.slice xo2 xl2 xc2) (.bool sb) (.slice yo1 yl1 yc1) (.slice yo2 yl2 yc2) (.bool sc) (.slice zo1 zl1 zc1) (.slice zo2 zl2 zc2))
  clear hua hub hva hvb hwa hwb htab hZ hn hl1 hl2
  go_enter Tryz.func10, Tryz.ntmps10
  have Z_e := Lib.hid (HZ.out.kp HT.out.k)
  obtain ⟨xz0, xz1, xz2⟩ := HT.out.ra.cells
  obtain ⟨yz0, yz1, yz2⟩ := HT.out.rb.cells
  obtain ⟨zz0, zz1, zz2⟩ := HT.out.rc.cells
  go_wp2_with (go_at_call 13; (with_reducible refine (CL1.out _ HT.out.k).mono ?_); rintro e w2 ⟨rfl, k2⟩; refine Hid.out ?_)
  refine Lib.hid ?_
  have T_2 := Lib.hid (HT.out.kp k2)
  have Z_2 := Lib.hid (Z_e.out.kp k2)
  clear HT Z_e
  clear k2
  obtain ⟨xz0, xz1, xz2⟩ := T_2.out.ra.cells
  obtain ⟨yz0, yz1, yz2⟩ := T_2.out.rb.cells
  obtain ⟨zz0, zz1, zz2⟩ := T_2.out.rc.cells
  go_wp2_with (go_at_call 13; (with_reducible refine (CL2.out _ T_2.out.k).mono ?_); rintro e w3 ⟨rfl, k3⟩; refine Hid.out ?_)
  refine Lib.hid ?_
  have T_3 := Lib.hid (T_2.out.kp k3)
  have Z_3 := Lib.hid (Z_2.out.kp k3)
  clear T_2 Z_2
  clear k3
  obtain ⟨xz0, xz1, xz2⟩ := T_3.out.ra.cells
  obtain ⟨yz0, yz1, yz2⟩ := T_3.out.rb.cells
  obtain ⟨zz0, zz1, zz2⟩ := T_3.out.rc.cells
  go_wp2_with (go_at_call 13; (with_reducible refine (CL3.out _ T_3.out.k).mono ?_); rintro e w4 ⟨rfl, k4⟩; refine Hid.out ?_)
  refine Lib.hid ?_
  have T_4 := Lib.hid (T_3.out.kp k4)
  have Z_4 := Lib.hid (Z_3.out.kp k4)
  clear T_3 Z_3
  clear k4
  obtain ⟨xz0, xz1, xz2⟩ := T_4.out.ra.cells
  obtain ⟨yz0, yz1, yz2⟩ := T_4.out.rb.cells
  obtain ⟨zz0, zz1, zz2⟩ := T_4.out.rc.cells
  go_wp2_with (go_at_call 14; (with_reducible refine (CAW.out _ T_4.out.k Z_4.out).mono ?_); rintro e w5 ⟨rfl, k5⟩; refine Hid.out ?_)
  refine Lib.hid ?_
  have T_5 := Lib.hid (T_4.out.kp k5)
  have Z_5 := Lib.hid (Z_4.out.kp k5)
  clear T_4 Z_4
  clear k5
  obtain ⟨xz0, xz1, xz2⟩ := T_5.out.ra.cells
  obtain ⟨yz0, yz1, yz2⟩ := T_5.out.rb.cells
  obtain ⟨zz0, zz1, zz2⟩ := T_5.out.rc.cells
  go_wp2
  go_ret
  exact ⟨rfl, T_5.out.k⟩

set_option maxRecDepth 20000 in
set_option maxHeartbeats 4000000 in
theorem order_yes {w : World} {sa : Bool} {ua ub : Value} {n1 d1 : List Nat} {sb : Bool} {va vb : Value} {n2 d2 : List Nat} {sc : Bool} {wa wb : Value} {n3 d3 : List Nat} (hua : Rd w ua n1) (hub : Rd w ub d1) (hva : Rd w va n2) (hvb : Rd w vb d2) (hwa : Rd w wa n3) (hwb : Rd w wb d3) (hl : (n1.length ≤ 16 ∧ d1.length ≤ 16) ∧ (n2.length ≤ 16 ∧ d2.length ≤ 16) ∧ (n3.length ≤ 16 ∧ d3.length ≤ 16)) (htab : Lib.TabIs Tryz.prog w "internal/strconv.uint64pow10" .u64 Lib.pow10Tab) (hZ : Tz w) :
    Calls Tryz.prog 10 #[.agg #[.bool sa, ua, ub], .agg #[.bool sb, va, vb], .agg #[.bool sc, wa, wb]] w fun e w' => e = .returned (.bool true) ∧ Kp w w' := by
  have HTB := Lib.hid (Lib.tabBelow_of_tabIs htab)
  have HZ := Lib.hid hZ
  have CAW := Lib.hid (fun w' (kk : Kp w w') (t : Tz w') => qawake_any w' t (tabKp HTB.out kk))
  obtain ⟨hl1, hl2, hl3⟩ := hl
  have CL1 := Lib.hid (fun w' (kk : Kp w w') => qlight_yes (s := sa) (hua.kp kk) (hub.kp kk) hl1)
  have CN1 := Lib.hid (fun w' (kk : Kp w w') => number_any (s := sa) (hua.kp kk) (hub.kp kk) hl1.1 hl1.2)
  have Sx : RSz 16 (numR sa n1 d1) := rsz_num hua hub hl1.1 hl1.2
  obtain ⟨Xx, hXx⟩ : ∃ X, X = (numR sa n1 d1) := ⟨_, rfl⟩
  rw [← hXx] at CN1 Sx
  clear hXx
  have CL2 := Lib.hid (fun w' (kk : Kp w w') => qlight_yes (s := sb) (hva.kp kk) (hvb.kp kk) hl2)
  have CN2 := Lib.hid (fun w' (kk : Kp w w') => number_any (s := sb) (hva.kp kk) (hvb.kp kk) hl2.1 hl2.2)
  have Sy : RSz 16 (numR sb n2 d2) := rsz_num hva hvb hl2.1 hl2.2
  obtain ⟨Xy, hXy⟩ : ∃ X, X = (numR sb n2 d2) := ⟨_, rfl⟩
  rw [← hXy] at CN2 Sy
  clear hXy
  have CL3 := Lib.hid (fun w' (kk : Kp w w') => qlight_yes (s := sc) (hwa.kp kk) (hwb.kp kk) hl3)
  have CN3 := Lib.hid (fun w' (kk : Kp w w') => number_any (s := sc) (hwa.kp kk) (hwb.kp kk) hl3.1 hl3.2)
  have Sz : RSz 16 (numR sc n3 d3) := rsz_num hwa hwb hl3.1 hl3.2
  obtain ⟨Xz, hXz⟩ : ∃ X, X = (numR sc n3 d3) := ⟨_, rfl⟩
  rw [← hXz] at CN3 Sz
  clear hXz
  obtain ⟨xo1, xl1, xc1, rfl⟩ := rd_slice hua
  obtain ⟨xo2, xl2, xc2, rfl⟩ := rd_slice hub
  obtain ⟨yo1, yl1, yc1, rfl⟩ := rd_slice hva
  obtain ⟨yo2, yl2, yc2, rfl⟩ := rd_slice hvb
  obtain ⟨zo1, zl1, zc1, rfl⟩ := rd_slice hwa
  obtain ⟨zo2, zl2, zc2, rfl⟩ := rd_slice hwb
  have HT := Lib.hid (Rw3.new w (.bool sa) (.slice xo1 xl1 xc1) (.slice xo2 xl2 xc2) (.bool sb) (.slice yo1 yl1 yc1) (.slice yo2 yl2 yc2) (.bool sc) (.slice zo1 zl1 zc1) (.slice zo2 zl2 zc2))
  obtain ⟨cv, hcv⟩ : ∃ c : Int, c = cmpR Xx Xy := ⟨_, rfl⟩
  obtain ⟨cw, hcw⟩ : ∃ c : Int, c = cmpR Xy Xx := ⟨_, rfl⟩
  obtain ⟨sz, hsz⟩ : ∃ c : Int, c = sgnR Xz := ⟨_, rfl⟩
  obtain ⟨cm, hcm⟩ : ∃ c : Int, c = cv * sz := ⟨_, rfl⟩
  obtain ⟨bs, hbs⟩ : ∃ b : Bool, b = (cv == 0) := ⟨_, rfl⟩
  have b1 := cmp_bd Xx Xy
  have b2 := cmp_bd Xy Xx
  have b3 := mul_bd b1 (sgn_bd Xz)
  rw [← hcv] at b1 b3
  rw [← hcw] at b2
  rw [← hsz, ← hcm] at b3
  have en : cv = -cw := by rw [hcv, hcw]; exact ord_neg _ _
  have w1 : IntKind.i64.wrap (-cw) = cv := by rw [← en]; exact IntWalk.i64_in _ (by omega)
  have w2 : IntKind.i64.wrap (cv * sz) = cm := by rw [← hcm]; exact IntWalk.i64_in _ (by omega)
  clear en b1 b2 b3
  have CQ := Lib.hid (fun w' a b (ha : RatV w' a (Xx)) (hb : RatV w' b (Xy)) (t : Tz w') => qcmp_any ha hb Sx Sy (by omega) (by omega) t)
  rw [← hcv] at CQ
  have C1 := Lib.hid (fun w' a b (ha : RatV w' a (Xy)) (hb : RatV w' b (Xx)) (t : Tz w') => qcmp_any ha hb Sy Sx (by omega) (by omega) t)
  rw [← hcw] at C1
  have C2 := Lib.hid (fun w' a b (ha : RatV w' a (Xx)) (hb : RatV w' b (Xy)) => rsame_any ha hb)
  rw [same_cmp, ← hcv, ← hbs] at C2
  have C3 := Lib.hid (fun w' a b (ha : RatV w' a (Xx)) (hb : RatV w' b (Xy)) (t : Tz w') => qsub_any ha hb Sx Sy (by omega) (by omega) t)
  have C4 := Lib.hid (fun w' a (ha : RatV w' a ((Xx - Xy))) => sign_any ha)
  rw [← ord_sub, ← hcv] at C4
  have C5 := Lib.hid (fun w' a b (ha : RatV w' a (Xx)) (hb : RatV w' b (Xz)) (t : Tz w') => qadd_any ha hb Sx Sz (by omega) (by omega) t)
  have C6 := Lib.hid (fun w' a b (ha : RatV w' a (Xy)) (hb : RatV w' b (Xz)) (t : Tz w') => qadd_any ha hb Sy Sz (by omega) (by omega) t)
  have C7 := Lib.hid (fun w' a b (ha : RatV w' a ((Xx + Xz))) (hb : RatV w' b ((Xy + Xz))) (t : Tz w') => qcmp_any ha hb (Sx.add Sz) (Sy.add Sz) (by omega) (by omega) t)
  rw [ord_add, ← hcv] at C7
  have C8 := Lib.hid (fun w' a b (ha : RatV w' a (Xx)) (hb : RatV w' b (Xz)) (t : Tz w') => qmul_any ha hb Sx Sz (by omega) (by omega) t)
  have C9 := Lib.hid (fun w' a b (ha : RatV w' a (Xy)) (hb : RatV w' b (Xz)) (t : Tz w') => qmul_any ha hb Sy Sz (by omega) (by omega) t)
  have C10 := Lib.hid (fun w' a b (ha : RatV w' a ((Xx * Xz))) (hb : RatV w' b ((Xy * Xz))) (t : Tz w') => qcmp_any ha hb (Sx.mul Sz) (Sy.mul Sz) (by omega) (by omega) t)
  rw [ord_mul, ← hcv, ← hsz, ← hcm] at C10
  have C11 := Lib.hid (fun w' a (ha : RatV w' a (Xz)) => sign_any ha)
  rw [← hsz] at C11
  have hbs2 := hbs.symm
  clear hcv hcw hsz hcm hbs
  clear hua hub hl1 Sx hva hvb hl2 Sy hwa hwb hl3 Sz htab hZ
  go_enter Tryz.func10, Tryz.ntmps10
  have Z_e := Lib.hid (HZ.out.kp HT.out.k)
  obtain ⟨xz0, xz1, xz2⟩ := HT.out.ra.cells
  obtain ⟨yz0, yz1, yz2⟩ := HT.out.rb.cells
  obtain ⟨zz0, zz1, zz2⟩ := HT.out.rc.cells
  go_wp2_with (go_at_call 13; (with_reducible refine (CL1.out _ HT.out.k).mono ?_); rintro e w2 ⟨rfl, k2⟩; refine Hid.out ?_)
  refine Lib.hid ?_
  have T_2 := Lib.hid (HT.out.kp k2)
  have Z_2 := Lib.hid (Z_e.out.kp k2)
  clear HT Z_e
  clear k2
  obtain ⟨xz0, xz1, xz2⟩ := T_2.out.ra.cells
  obtain ⟨yz0, yz1, yz2⟩ := T_2.out.rb.cells
  obtain ⟨zz0, zz1, zz2⟩ := T_2.out.rc.cells
  go_wp2_with (go_at_call 13; (with_reducible refine (CL2.out _ T_2.out.k).mono ?_); rintro e w3 ⟨rfl, k3⟩; refine Hid.out ?_)
  refine Lib.hid ?_
  have T_3 := Lib.hid (T_2.out.kp k3)
  have Z_3 := Lib.hid (Z_2.out.kp k3)
  clear T_2 Z_2
  clear k3
  obtain ⟨xz0, xz1, xz2⟩ := T_3.out.ra.cells
  obtain ⟨yz0, yz1, yz2⟩ := T_3.out.rb.cells
  obtain ⟨zz0, zz1, zz2⟩ := T_3.out.rc.cells
  go_wp2_with (go_at_call 13; (with_reducible refine (CL3.out _ T_3.out.k).mono ?_); rintro e w4 ⟨rfl, k4⟩; refine Hid.out ?_)
  refine Lib.hid ?_
  have T_4 := Lib.hid (T_3.out.kp k4)
  have Z_4 := Lib.hid (Z_3.out.kp k4)
  clear T_3 Z_3
  clear k4
  obtain ⟨xz0, xz1, xz2⟩ := T_4.out.ra.cells
  obtain ⟨yz0, yz1, yz2⟩ := T_4.out.rb.cells
  obtain ⟨zz0, zz1, zz2⟩ := T_4.out.rc.cells
  go_upto_region 3 with fail
  have T_5 := Lib.hid (T_4.out.kp (Below.refl _ _).drew)
  have Z_5 := Lib.hid (Z_4.out.kp (Below.refl _ _).drew)
  clear T_4 Z_4
  obtain ⟨S, hS⟩ : ∃ S : Plan, S = ⟨[(0, .agg #[.bool sa, .slice xo1 xl1 xc1, .slice xo2 xl2 xc2]), (2, .agg #[.bool sb, .slice yo1 yl1 yc1, .slice yo2 yl2 yc2]), (4, .agg #[.bool sc, .slice zo1 zl1 zc1, .slice zo2 zl2 zc2])], [(1, Xx), (3, Xy), (5, Xz)], [], [⟨6, 9, 1⟩, ⟨7, 10, 3⟩, ⟨8, 11, 5⟩]⟩ := ⟨_, rfl⟩
  have HS := Lib.hid hS
  clear hS
  refine' wp_region_inv (F := _) (by kernel_rfl) (by kernel_rfl) (by kernel_rfl) (PJ S _) (PJ.begin _ _ _) ?hF ?hsteps ?hend
  case hF => intro f; (try simp only [List.append]); simp only [putAll, Act.put, List.setIfInBounds_toArray, List.set_cons_zero, List.set_cons_succ, Nat.zero_add, Nat.reduceAdd]; exact rfl
  case hsteps =>
    refine StepsJ.cons ?_ ?_
    · intro b f w1 hb hw hJ K hK
      have HB := Lib.hid hb
      have HJ := Lib.hid hJ
      have HW := Lib.hid hw
      clear hJ hw hb
      try dsimp only
      rw [if_pos (by rfl)]
      obtain ⟨xz0, xz1, xz2⟩ := (T_5.out.kp HJ.out.k).ra.cells
      go_simp
      exact hK.out _ (.agg #[.bool sa, .slice xo1 xl1 xc1, .slice xo2 xl2 xc2]) _ (by (try dsimp only) <;> simp only [Act.put, List.setIfInBounds_toArray, List.set_cons_zero, List.set_cons_succ]) (HJ.out.pureStep 0 _ HB.out (by rw [HS.out]; rfl) (by rw [HS.out]; rfl) (by rw [HS.out]; rfl) (by rw [HS.out]; rfl))
    refine StepsJ.cons ?_ ?_
    · intro b f w1 hb hw hJ K hK
      have HB := Lib.hid hb
      have HJ := Lib.hid hJ
      have HW := Lib.hid hw
      clear hJ hw hb
      try dsimp only
      have e0 : f 0 = .agg #[.bool sa, .slice xo1 xl1 xc1, .slice xo2 xl2 xc2] := HJ.out.pure 0 _ (by rw [HS.out]; rfl) (HW.out 0 (by decide))
      simp only [e0]
      rw [if_pos (by rfl)]
      go_simp
      go_at_call 24
      (with_reducible refine (CN1.out _ (T_5.out.kp HJ.out.k).k).mono ?_)
      rintro e w2 ⟨vr, rfl, hr, kk⟩
      exact hK.out _ vr _ (by (try dsimp only) <;> simp only [Act.put, List.setIfInBounds_toArray, List.set_cons_zero, List.set_cons_succ, e0]) (HJ.out.callStep 1 vr _ HB.out kk hr (by rw [HS.out]; rfl) (by rw [HS.out]; rfl) (by rw [HS.out]; rfl) (by rw [HS.out]; rfl))
    refine StepsJ.cons ?_ ?_
    · intro b f w1 hb hw hJ K hK
      have HB := Lib.hid hb
      have HJ := Lib.hid hJ
      have HW := Lib.hid hw
      clear hJ hw hb
      try dsimp only
      rw [if_pos (by rfl)]
      obtain ⟨yz0, yz1, yz2⟩ := (T_5.out.kp HJ.out.k).rb.cells
      go_simp
      exact hK.out _ (.agg #[.bool sb, .slice yo1 yl1 yc1, .slice yo2 yl2 yc2]) _ (by (try dsimp only) <;> simp only [Act.put, List.setIfInBounds_toArray, List.set_cons_zero, List.set_cons_succ]) (HJ.out.pureStep 2 _ HB.out (by rw [HS.out]; rfl) (by rw [HS.out]; rfl) (by rw [HS.out]; rfl) (by rw [HS.out]; rfl))
    refine StepsJ.cons ?_ ?_
    · intro b f w1 hb hw hJ K hK
      have HB := Lib.hid hb
      have HJ := Lib.hid hJ
      have HW := Lib.hid hw
      clear hJ hw hb
      try dsimp only
      have e2 : f 2 = .agg #[.bool sb, .slice yo1 yl1 yc1, .slice yo2 yl2 yc2] := HJ.out.pure 2 _ (by rw [HS.out]; rfl) (HW.out 2 (by decide))
      simp only [e2]
      rw [if_pos (by rfl)]
      go_simp
      go_at_call 24
      (with_reducible refine (CN2.out _ (T_5.out.kp HJ.out.k).k).mono ?_)
      rintro e w2 ⟨vr, rfl, hr, kk⟩
      exact hK.out _ vr _ (by (try dsimp only) <;> simp only [Act.put, List.setIfInBounds_toArray, List.set_cons_zero, List.set_cons_succ, e2]) (HJ.out.callStep 3 vr _ HB.out kk hr (by rw [HS.out]; rfl) (by rw [HS.out]; rfl) (by rw [HS.out]; rfl) (by rw [HS.out]; rfl))
    refine StepsJ.cons ?_ ?_
    · intro b f w1 hb hw hJ K hK
      have HB := Lib.hid hb
      have HJ := Lib.hid hJ
      have HW := Lib.hid hw
      clear hJ hw hb
      try dsimp only
      rw [if_pos (by rfl)]
      obtain ⟨zz0, zz1, zz2⟩ := (T_5.out.kp HJ.out.k).rc.cells
      go_simp
      exact hK.out _ (.agg #[.bool sc, .slice zo1 zl1 zc1, .slice zo2 zl2 zc2]) _ (by (try dsimp only) <;> simp only [Act.put, List.setIfInBounds_toArray, List.set_cons_zero, List.set_cons_succ]) (HJ.out.pureStep 4 _ HB.out (by rw [HS.out]; rfl) (by rw [HS.out]; rfl) (by rw [HS.out]; rfl) (by rw [HS.out]; rfl))
    refine StepsJ.cons ?_ ?_
    · intro b f w1 hb hw hJ K hK
      have HB := Lib.hid hb
      have HJ := Lib.hid hJ
      have HW := Lib.hid hw
      clear hJ hw hb
      try dsimp only
      have e4 : f 4 = .agg #[.bool sc, .slice zo1 zl1 zc1, .slice zo2 zl2 zc2] := HJ.out.pure 4 _ (by rw [HS.out]; rfl) (HW.out 4 (by decide))
      simp only [e4]
      rw [if_pos (by rfl)]
      go_simp
      go_at_call 24
      (with_reducible refine (CN3.out _ (T_5.out.kp HJ.out.k).k).mono ?_)
      rintro e w2 ⟨vr, rfl, hr, kk⟩
      exact hK.out _ vr _ (by (try dsimp only) <;> simp only [Act.put, List.setIfInBounds_toArray, List.set_cons_zero, List.set_cons_succ, e4]) (HJ.out.callStep 5 vr _ HB.out kk hr (by rw [HS.out]; rfl) (by rw [HS.out]; rfl) (by rw [HS.out]; rfl) (by rw [HS.out]; rfl))
    refine StepsJ.cons ?_ ?_
    · intro b f w1 hb hw hJ K hK
      have HB := Lib.hid hb
      have HJ := Lib.hid hJ
      have HW := Lib.hid hw
      clear hJ hw hb
      try dsimp only
      rw [if_pos (by rfl)]
      go_simp
      exact hK.out _ _ _ (by (try dsimp only) <;> simp only [Act.put, List.setIfInBounds_toArray, List.set_cons_zero, List.set_cons_succ]) (HJ.out.allocStep 6 HB.out (by rw [HS.out]; rfl) (by rw [HS.out]; rfl) (by rw [HS.out]; rfl) (by rw [HS.out]; rfl))
    refine StepsJ.cons ?_ ?_
    · intro b f w1 hb hw hJ K hK
      have HB := Lib.hid hb
      have HJ := Lib.hid hJ
      have HW := Lib.hid hw
      clear hJ hw hb
      try dsimp only
      rw [if_pos (by rfl)]
      go_simp
      exact hK.out _ _ _ (by (try dsimp only) <;> simp only [Act.put, List.setIfInBounds_toArray, List.set_cons_zero, List.set_cons_succ]) (HJ.out.allocStep 7 HB.out (by rw [HS.out]; rfl) (by rw [HS.out]; rfl) (by rw [HS.out]; rfl) (by rw [HS.out]; rfl))
    refine StepsJ.cons ?_ ?_
    · intro b f w1 hb hw hJ K hK
      have HB := Lib.hid hb
      have HJ := Lib.hid hJ
      have HW := Lib.hid hw
      clear hJ hw hb
      try dsimp only
      rw [if_pos (by rfl)]
      go_simp
      exact hK.out _ _ _ (by (try dsimp only) <;> simp only [Act.put, List.setIfInBounds_toArray, List.set_cons_zero, List.set_cons_succ]) (HJ.out.allocStep 8 HB.out (by rw [HS.out]; rfl) (by rw [HS.out]; rfl) (by rw [HS.out]; rfl) (by rw [HS.out]; rfl))
    refine StepsJ.cons ?_ ?_
    · intro b f w1 hb hw hJ K hK
      have HB := Lib.hid hb
      have HJ := Lib.hid hJ
      have HW := Lib.hid hw
      clear hJ hw hb
      try dsimp only
      rw [if_pos (by rfl)]
      obtain ⟨g, s, o1, l1, c1, o2, l2, c2, h1, h2, hr, hn⟩ := HJ.out.storeStep ⟨6, 9, 1⟩ (by rw [HS.out]; simp) (Xx) (by rw [HS.out]; rfl) 9 rfl HB.out (HW.out 6 (by decide)) (HW.out 1 (by decide)) (by rw [HS.out]; rfl) (by rw [HS.out]; rfl) (by rw [HS.out]; rfl) (by rw [HS.out]; simp)
      have HN := Lib.hid hn
      obtain ⟨d0, d1, d2, f0, f1, f2⟩ := hr.cells
      clear hn hr
      simp only at h1 h2
      simp only [h1, h2]
      go_simp
      exact hK.out _ undef _ (by (try dsimp only) <;> simp only [Act.put, h1, h2]) (HN.out undef)
    refine StepsJ.cons ?_ ?_
    · intro b f w1 hb hw hJ K hK
      have HB := Lib.hid hb
      have HJ := Lib.hid hJ
      have HW := Lib.hid hw
      clear hJ hw hb
      try dsimp only
      rw [if_pos (by rfl)]
      obtain ⟨g, s, o1, l1, c1, o2, l2, c2, h1, h2, hr, hn⟩ := HJ.out.storeStep ⟨7, 10, 3⟩ (by rw [HS.out]; simp) (Xy) (by rw [HS.out]; rfl) 10 rfl HB.out (HW.out 7 (by decide)) (HW.out 3 (by decide)) (by rw [HS.out]; rfl) (by rw [HS.out]; rfl) (by rw [HS.out]; rfl) (by rw [HS.out]; simp)
      have HN := Lib.hid hn
      obtain ⟨d0, d1, d2, f0, f1, f2⟩ := hr.cells
      clear hn hr
      simp only at h1 h2
      simp only [h1, h2]
      go_simp
      exact hK.out _ undef _ (by (try dsimp only) <;> simp only [Act.put, h1, h2]) (HN.out undef)
    refine StepsJ.cons ?_ ?_
    · intro b f w1 hb hw hJ K hK
      have HB := Lib.hid hb
      have HJ := Lib.hid hJ
      have HW := Lib.hid hw
      clear hJ hw hb
      try dsimp only
      rw [if_pos (by rfl)]
      obtain ⟨g, s, o1, l1, c1, o2, l2, c2, h1, h2, hr, hn⟩ := HJ.out.storeStep ⟨8, 11, 5⟩ (by rw [HS.out]; simp) (Xz) (by rw [HS.out]; rfl) 11 rfl HB.out (HW.out 8 (by decide)) (HW.out 5 (by decide)) (by rw [HS.out]; rfl) (by rw [HS.out]; rfl) (by rw [HS.out]; rfl) (by rw [HS.out]; simp)
      have HN := Lib.hid hn
      obtain ⟨d0, d1, d2, f0, f1, f2⟩ := hr.cells
      clear hn hr
      simp only at h1 h2
      simp only [h1, h2]
      go_simp
      exact hK.out _ undef _ (by (try dsimp only) <;> simp only [Act.put, h1, h2]) (HN.out undef)
    exact StepsJ.nil
  case hend =>
    intro b f w6 hb hJ
    try dsimp only
    obtain ⟨gx, xs, xq1, xr1, xs1, xq2, xr2, xs2, ex, hrx, hx⟩ := hJ.all ⟨6, 9, 1⟩ (by rw [HS.out]; simp) (Xx) (by rw [HS.out]; rfl) (hb 6 (by decide)) (hb 1 (by decide)) (hb 9 (by decide))
    obtain ⟨gy, ys, yq1, yr1, ys1, yq2, yr2, ys2, ey, hry, hy⟩ := hJ.all ⟨7, 10, 3⟩ (by rw [HS.out]; simp) (Xy) (by rw [HS.out]; rfl) (hb 7 (by decide)) (hb 3 (by decide)) (hb 10 (by decide))
    obtain ⟨gz, zs, zq1, zr1, zs1, zq2, zr2, zs2, ez, hrz, hz⟩ := hJ.all ⟨8, 11, 5⟩ (by rw [HS.out]; simp) (Xz) (by rw [HS.out]; rfl) (hb 8 (by decide)) (hb 5 (by decide)) (hb 11 (by decide))
    simp only at ex ey ez
    have kk := hJ.k
    clear hJ hb
    have T_6 := Lib.hid (T_5.out.kp kk)
    have Z_6 := Lib.hid (Z_5.out.kp kk)
    clear kk T_5 Z_5
    have Vx_6 := Lib.hid hx
    have Bx_6 := Lib.hid hrx
    clear hx hrx
    have Vy_6 := Lib.hid hy
    have By_6 := Lib.hid hry
    clear hy hry
    have Vz_6 := Lib.hid hz
    have Bz_6 := Lib.hid hrz
    clear hz hrz
    simp only [ex, ey, ez]
    clear ex ey ez
    generalize f 0 = ya0
    generalize f 1 = ya1
    generalize f 2 = ya2
    generalize f 3 = ya3
    generalize f 4 = ya4
    generalize f 5 = ya5
    clear HS S f b
    obtain ⟨xz0, xz1, xz2⟩ := T_6.out.ra.cells
    obtain ⟨yz0, yz1, yz2⟩ := T_6.out.rb.cells
    obtain ⟨zz0, zz1, zz2⟩ := T_6.out.rc.cells
    obtain ⟨xg0, xg1, xg2, _⟩ := Bx_6.out.cells
    obtain ⟨yg0, yg1, yg2, _⟩ := By_6.out.cells
    obtain ⟨zg0, zg1, zg2, _⟩ := Bz_6.out.cells
    go_wp2_with (go_at_call 34; (with_reducible refine (CQ.out _ _ _ Vx_6.out Vy_6.out Z_6.out).mono ?_); rintro e w7 ⟨rfl, k7⟩; refine Hid.out ?_)
    refine Lib.hid ?_
    have T_7 := Lib.hid (T_6.out.kp k7)
    have Z_7 := Lib.hid (Z_6.out.kp k7)
    have Vx_7 := Lib.hid (Vx_6.out.kp k7)
    have Bx_7 := Lib.hid (Bx_6.out.kp k7)
    have Vy_7 := Lib.hid (Vy_6.out.kp k7)
    have By_7 := Lib.hid (By_6.out.kp k7)
    have Vz_7 := Lib.hid (Vz_6.out.kp k7)
    have Bz_7 := Lib.hid (Bz_6.out.kp k7)
    clear T_6 Z_6 Vx_6 Bx_6 Vy_6 By_6 Vz_6 Bz_6
    clear k7
    obtain ⟨xz0, xz1, xz2⟩ := T_7.out.ra.cells
    obtain ⟨yz0, yz1, yz2⟩ := T_7.out.rb.cells
    obtain ⟨zz0, zz1, zz2⟩ := T_7.out.rc.cells
    obtain ⟨xg0, xg1, xg2, _⟩ := Bx_7.out.cells
    obtain ⟨yg0, yg1, yg2, _⟩ := By_7.out.cells
    obtain ⟨zg0, zg1, zg2, _⟩ := Bz_7.out.cells
    go_upto_region 5 with fail
    have T_8 := Lib.hid (T_7.out.kp (Below.refl _ _).drew)
    have Z_8 := Lib.hid (Z_7.out.kp (Below.refl _ _).drew)
    have Vx_8 := Lib.hid (Vx_7.out.kp (Below.refl _ _).drew)
    have Bx_8 := Lib.hid (Bx_7.out.kp (Below.refl _ _).drew)
    have Vy_8 := Lib.hid (Vy_7.out.kp (Below.refl _ _).drew)
    have By_8 := Lib.hid (By_7.out.kp (Below.refl _ _).drew)
    have Vz_8 := Lib.hid (Vz_7.out.kp (Below.refl _ _).drew)
    have Bz_8 := Lib.hid (Bz_7.out.kp (Below.refl _ _).drew)
    clear T_7 Z_7 Vx_7 Bx_7 Vy_7 By_7 Vz_7 Bz_7
    obtain ⟨S, hS⟩ : ∃ S : Plan, S = ⟨[(0, .int .i64 cv), (1, .agg #[.bool ys, .slice yq1 yr1 ys1, .slice yq2 yr2 ys2]), (2, .agg #[.bool xs, .slice xq1 xr1 xs1, .slice xq2 xr2 xs2]), (3, .int .i64 cw), (4, .int .i64 cv), (5, .bool true), (6, .bool true), (7, .int .i64 cv), (8, .bool bs), (9, .agg #[.bool xs, .slice xq1 xr1 xs1, .slice xq2 xr2 xs2]), (10, .agg #[.bool ys, .slice yq1 yr1 ys1, .slice yq2 yr2 ys2]), (11, .bool bs), (12, .bool true), (13, .bool true), (14, .bool true), (15, .int .i64 cv), (16, .agg #[.bool xs, .slice xq1 xr1 xs1, .slice xq2 xr2 xs2]), (17, .agg #[.bool ys, .slice yq1 yr1 ys1, .slice yq2 yr2 ys2]), (19, .int .i64 cv), (20, .bool true), (21, .bool true), (22, .bool true), (23, .agg #[.bool xs, .slice xq1 xr1 xs1, .slice xq2 xr2 xs2]), (24, .agg #[.bool zs, .slice zq1 zr1 zs1, .slice zq2 zr2 zs2]), (26, .agg #[.bool ys, .slice yq1 yr1 ys1, .slice yq2 yr2 ys2]), (27, .agg #[.bool zs, .slice zq1 zr1 zs1, .slice zq2 zr2 zs2]), (29, .int .i64 cv), (30, .int .i64 cv), (31, .bool true), (32, .bool true), (33, .bool true), (34, .agg #[.bool xs, .slice xq1 xr1 xs1, .slice xq2 xr2 xs2]), (35, .agg #[.bool zs, .slice zq1 zr1 zs1, .slice zq2 zr2 zs2]), (37, .agg #[.bool ys, .slice yq1 yr1 ys1, .slice yq2 yr2 ys2]), (38, .agg #[.bool zs, .slice zq1 zr1 zs1, .slice zq2 zr2 zs2]), (40, .int .i64 cm), (41, .int .i64 cv), (42, .agg #[.bool zs, .slice zq1 zr1 zs1, .slice zq2 zr2 zs2]), (43, .int .i64 sz), (44, .int .i64 cm), (45, .bool true), (46, .bool true), (47, .bool true), (48, .bool true), (49, .bool true), (50, .bool true)], [(18, (Xx - Xy)), (25, (Xx + Xz)), (28, (Xy + Xz)), (36, (Xx * Xz)), (39, (Xy * Xz))], [], []⟩ := ⟨_, rfl⟩
    have HS := Lib.hid hS
    clear hS
    refine' wp_region_inv (F := _) (by kernel_rfl) (by kernel_rfl) (by kernel_rfl) (PJ S _) (PJ.begin _ _ _) ?hF ?hsteps ?hend
    case hF => intro f; (try simp only [List.append]); simp only [putAll, Act.put, List.setIfInBounds_toArray, List.set_cons_zero, List.set_cons_succ, Nat.zero_add, Nat.reduceAdd]; exact rfl
    case hsteps =>
      try simp only [List.append]
      refine StepsJ.cons ?_ ?_
      · intro b f w1 hb hw hJ K hK
        have HB := Lib.hid hb
        have HJ := Lib.hid hJ
        have HW := Lib.hid hw
        clear hJ hw hb
        try dsimp only
        rw [if_pos (by rfl)]
        go_simp
        exact hK.out _ (.int .i64 cv) _ (by (try dsimp only) <;> simp only [Act.put, List.setIfInBounds_toArray, List.set_cons_zero, List.set_cons_succ]) (HJ.out.pureStep 0 _ HB.out (by rw [HS.out]; rfl) (by rw [HS.out]; rfl) (by rw [HS.out]; rfl) (by rw [HS.out]; rfl))
      refine StepsJ.cons ?_ ?_
      · intro b f w1 hb hw hJ K hK
        have HB := Lib.hid hb
        have HJ := Lib.hid hJ
        have HW := Lib.hid hw
        clear hJ hw hb
        try dsimp only
        rw [if_pos (by rfl)]
        obtain ⟨yg0, yg1, yg2, _⟩ := (By_8.out.kp HJ.out.k).cells
        go_simp
        exact hK.out _ (.agg #[.bool ys, .slice yq1 yr1 ys1, .slice yq2 yr2 ys2]) _ (by (try dsimp only) <;> simp only [Act.put, List.setIfInBounds_toArray, List.set_cons_zero, List.set_cons_succ]) (HJ.out.pureStep 1 _ HB.out (by rw [HS.out]; rfl) (by rw [HS.out]; rfl) (by rw [HS.out]; rfl) (by rw [HS.out]; rfl))
      refine StepsJ.cons ?_ ?_
      · intro b f w1 hb hw hJ K hK
        have HB := Lib.hid hb
        have HJ := Lib.hid hJ
        have HW := Lib.hid hw
        clear hJ hw hb
        try dsimp only
        rw [if_pos (by rfl)]
        obtain ⟨xg0, xg1, xg2, _⟩ := (Bx_8.out.kp HJ.out.k).cells
        go_simp
        exact hK.out _ (.agg #[.bool xs, .slice xq1 xr1 xs1, .slice xq2 xr2 xs2]) _ (by (try dsimp only) <;> simp only [Act.put, List.setIfInBounds_toArray, List.set_cons_zero, List.set_cons_succ]) (HJ.out.pureStep 2 _ HB.out (by rw [HS.out]; rfl) (by rw [HS.out]; rfl) (by rw [HS.out]; rfl) (by rw [HS.out]; rfl))
      refine StepsJ.cons ?_ ?_
      · intro b f w1 hb hw hJ K hK
        have HB := Lib.hid hb
        have HJ := Lib.hid hJ
        have HW := Lib.hid hw
        clear hJ hw hb
        try dsimp only
        have e1 : f 1 = .agg #[.bool ys, .slice yq1 yr1 ys1, .slice yq2 yr2 ys2] := HJ.out.pure 1 _ (by rw [HS.out]; rfl) (HW.out 1 (by decide))
        have e2 : f 2 = .agg #[.bool xs, .slice xq1 xr1 xs1, .slice xq2 xr2 xs2] := HJ.out.pure 2 _ (by rw [HS.out]; rfl) (HW.out 2 (by decide))
        simp only [e1, e2]
        rw [if_pos (by rfl)]
        go_simp
        go_at_call 34
        (with_reducible refine (C1.out _ _ _ (Vy_8.out.kp HJ.out.k) (Vx_8.out.kp HJ.out.k) (Z_8.out.kp HJ.out.k)).mono ?_)
        rintro e w2 ⟨rfl, kk⟩
        exact hK.out _ (.int .i64 cw) _ (by (try dsimp only) <;> simp only [Act.put, List.setIfInBounds_toArray, List.set_cons_zero, List.set_cons_succ, e1, e2]) ((HJ.out.later kk).pureStep 3 _ HB.out (by rw [HS.out]; rfl) (by rw [HS.out]; rfl) (by rw [HS.out]; rfl) (by rw [HS.out]; rfl))
      refine StepsJ.cons ?_ ?_
      · intro b f w1 hb hw hJ K hK
        have HB := Lib.hid hb
        have HJ := Lib.hid hJ
        have HW := Lib.hid hw
        clear hJ hw hb
        try dsimp only
        have e3 : f 3 = .int .i64 cw := HJ.out.pure 3 _ (by rw [HS.out]; rfl) (HW.out 3 (by decide))
        simp only [e3]
        rw [if_pos (by rfl)]
        go_simp
        exact hK.out _ (.int .i64 cv) _ (by (try dsimp only) <;> simp only [Act.put, List.setIfInBounds_toArray, List.set_cons_zero, List.set_cons_succ, e3]) (HJ.out.pureStep 4 _ HB.out (by rw [HS.out]; rfl) (by rw [HS.out]; rfl) (by rw [HS.out]; rfl) (by rw [HS.out]; rfl))
      refine StepsJ.cons ?_ ?_
      · intro b f w1 hb hw hJ K hK
        have HB := Lib.hid hb
        have HJ := Lib.hid hJ
        have HW := Lib.hid hw
        clear hJ hw hb
        try dsimp only
        have e0 : f 0 = .int .i64 cv := HJ.out.pure 0 _ (by rw [HS.out]; rfl) (HW.out 0 (by decide))
        have e4 : f 4 = .int .i64 cv := HJ.out.pure 4 _ (by rw [HS.out]; rfl) (HW.out 4 (by decide))
        simp only [e0, e4]
        rw [if_pos (by rfl)]
        go_simp
        exact hK.out _ (.bool true) _ (by (try dsimp only) <;> simp only [Act.put, List.setIfInBounds_toArray, List.set_cons_zero, List.set_cons_succ, e0, e4]) (HJ.out.pureStep 5 _ HB.out (by rw [HS.out]; rfl) (by rw [HS.out]; rfl) (by rw [HS.out]; rfl) (by rw [HS.out]; rfl))
      refine StepsJ.cons ?_ ?_
      · intro b f w1 hb hw hJ K hK
        have HB := Lib.hid hb
        have HJ := Lib.hid hJ
        have HW := Lib.hid hw
        clear hJ hw hb
        try dsimp only
        have e5 : f 5 = .bool true := HJ.out.pure 5 _ (by rw [HS.out]; rfl) (HW.out 5 (by decide))
        simp only [e5]
        rw [if_pos (by rfl)]
        go_simp
        exact hK.out _ (.bool true) _ (by (try dsimp only) <;> simp only [Act.put, List.setIfInBounds_toArray, List.set_cons_zero, List.set_cons_succ, e5]) (HJ.out.pureStep 6 _ HB.out (by rw [HS.out]; rfl) (by rw [HS.out]; rfl) (by rw [HS.out]; rfl) (by rw [HS.out]; rfl))
      refine StepsJ.cons ?_ ?_
      · intro b f w1 hb hw hJ K hK
        have HB := Lib.hid hb
        have HJ := Lib.hid hJ
        have HW := Lib.hid hw
        clear hJ hw hb
        try dsimp only
        have e6 : f 6 = .bool true := HJ.out.pure 6 _ (by rw [HS.out]; rfl) (HW.out 6 (by decide))
        simp only [e6]
        rw [if_pos (by rfl)]
        go_simp
        exact hK.out _ (.int .i64 cv) _ (by (try dsimp only) <;> simp only [Act.put, List.setIfInBounds_toArray, List.set_cons_zero, List.set_cons_succ, e6]) (HJ.out.pureStep 7 _ HB.out (by rw [HS.out]; rfl) (by rw [HS.out]; rfl) (by rw [HS.out]; rfl) (by rw [HS.out]; rfl))
      refine StepsJ.cons ?_ ?_
      · intro b f w1 hb hw hJ K hK
        have HB := Lib.hid hb
        have HJ := Lib.hid hJ
        have HW := Lib.hid hw
        clear hJ hw hb
        try dsimp only
        have e6 : f 6 = .bool true := HJ.out.pure 6 _ (by rw [HS.out]; rfl) (HW.out 6 (by decide))
        have e7 : f 7 = .int .i64 cv := HJ.out.pure 7 _ (by rw [HS.out]; rfl) (HW.out 7 (by decide))
        simp only [e6, e7]
        rw [if_pos (by rfl)]
        go_simp
        exact hK.out _ (.bool bs) _ (by (try dsimp only) <;> simp only [Act.put, List.setIfInBounds_toArray, List.set_cons_zero, List.set_cons_succ, e6, e7]) (HJ.out.pureStep 8 _ HB.out (by rw [HS.out]; rfl) (by rw [HS.out]; rfl) (by rw [HS.out]; rfl) (by rw [HS.out]; rfl))
      refine StepsJ.cons ?_ ?_
      · intro b f w1 hb hw hJ K hK
        have HB := Lib.hid hb
        have HJ := Lib.hid hJ
        have HW := Lib.hid hw
        clear hJ hw hb
        try dsimp only
        have e6 : f 6 = .bool true := HJ.out.pure 6 _ (by rw [HS.out]; rfl) (HW.out 6 (by decide))
        simp only [e6]
        rw [if_pos (by rfl)]
        obtain ⟨xg0, xg1, xg2, _⟩ := (Bx_8.out.kp HJ.out.k).cells
        go_simp
        exact hK.out _ (.agg #[.bool xs, .slice xq1 xr1 xs1, .slice xq2 xr2 xs2]) _ (by (try dsimp only) <;> simp only [Act.put, List.setIfInBounds_toArray, List.set_cons_zero, List.set_cons_succ, e6]) (HJ.out.pureStep 9 _ HB.out (by rw [HS.out]; rfl) (by rw [HS.out]; rfl) (by rw [HS.out]; rfl) (by rw [HS.out]; rfl))
      refine StepsJ.cons ?_ ?_
      · intro b f w1 hb hw hJ K hK
        have HB := Lib.hid hb
        have HJ := Lib.hid hJ
        have HW := Lib.hid hw
        clear hJ hw hb
        try dsimp only
        have e6 : f 6 = .bool true := HJ.out.pure 6 _ (by rw [HS.out]; rfl) (HW.out 6 (by decide))
        simp only [e6]
        rw [if_pos (by rfl)]
        obtain ⟨yg0, yg1, yg2, _⟩ := (By_8.out.kp HJ.out.k).cells
        go_simp
        exact hK.out _ (.agg #[.bool ys, .slice yq1 yr1 ys1, .slice yq2 yr2 ys2]) _ (by (try dsimp only) <;> simp only [Act.put, List.setIfInBounds_toArray, List.set_cons_zero, List.set_cons_succ, e6]) (HJ.out.pureStep 10 _ HB.out (by rw [HS.out]; rfl) (by rw [HS.out]; rfl) (by rw [HS.out]; rfl) (by rw [HS.out]; rfl))
      refine StepsJ.cons ?_ ?_
      · intro b f w1 hb hw hJ K hK
        have HB := Lib.hid hb
        have HJ := Lib.hid hJ
        have HW := Lib.hid hw
        clear hJ hw hb
        try dsimp only
        have e6 : f 6 = .bool true := HJ.out.pure 6 _ (by rw [HS.out]; rfl) (HW.out 6 (by decide))
        have e9 : f 9 = .agg #[.bool xs, .slice xq1 xr1 xs1, .slice xq2 xr2 xs2] := HJ.out.pure 9 _ (by rw [HS.out]; rfl) (HW.out 9 (by decide))
        have e10 : f 10 = .agg #[.bool ys, .slice yq1 yr1 ys1, .slice yq2 yr2 ys2] := HJ.out.pure 10 _ (by rw [HS.out]; rfl) (HW.out 10 (by decide))
        simp only [e6, e9, e10]
        rw [if_pos (by rfl)]
        go_simp
        go_at_call 33
        (with_reducible refine (C2.out _ _ _ (Vx_8.out.kp HJ.out.k) (Vy_8.out.kp HJ.out.k)).mono ?_)
        rintro e w2 ⟨rfl, kk⟩
        exact hK.out _ (.bool bs) _ (by (try dsimp only) <;> simp only [Act.put, List.setIfInBounds_toArray, List.set_cons_zero, List.set_cons_succ, e6, e9, e10]) ((HJ.out.later kk).pureStep 11 _ HB.out (by rw [HS.out]; rfl) (by rw [HS.out]; rfl) (by rw [HS.out]; rfl) (by rw [HS.out]; rfl))
      refine StepsJ.cons ?_ ?_
      · intro b f w1 hb hw hJ K hK
        have HB := Lib.hid hb
        have HJ := Lib.hid hJ
        have HW := Lib.hid hw
        clear hJ hw hb
        try dsimp only
        have e6 : f 6 = .bool true := HJ.out.pure 6 _ (by rw [HS.out]; rfl) (HW.out 6 (by decide))
        have e8 : f 8 = .bool bs := HJ.out.pure 8 _ (by rw [HS.out]; rfl) (HW.out 8 (by decide))
        have e11 : f 11 = .bool bs := HJ.out.pure 11 _ (by rw [HS.out]; rfl) (HW.out 11 (by decide))
        simp only [e6, e8, e11]
        rw [if_pos (by rfl)]
        go_simp
        exact hK.out _ (.bool true) _ (by (try dsimp only) <;> simp only [Act.put, List.setIfInBounds_toArray, List.set_cons_zero, List.set_cons_succ, e6, e8, e11]) (HJ.out.pureStep 12 _ HB.out (by rw [HS.out]; rfl) (by rw [HS.out]; rfl) (by rw [HS.out]; rfl) (by rw [HS.out]; rfl))
      refine StepsJ.cons ?_ ?_
      · intro b f w1 hb hw hJ K hK
        have HB := Lib.hid hb
        have HJ := Lib.hid hJ
        have HW := Lib.hid hw
        clear hJ hw hb
        try dsimp only
        have e6 : f 6 = .bool true := HJ.out.pure 6 _ (by rw [HS.out]; rfl) (HW.out 6 (by decide))
        have e12 : f 12 = .bool true := HJ.out.pure 12 _ (by rw [HS.out]; rfl) (HW.out 12 (by decide))
        simp only [e6, e12]
        rw [if_pos (by rfl)]
        go_simp
        exact hK.out _ (.bool true) _ (by (try dsimp only) <;> simp only [Act.put, List.setIfInBounds_toArray, List.set_cons_zero, List.set_cons_succ, e6, e12]) (HJ.out.pureStep 13 _ HB.out (by rw [HS.out]; rfl) (by rw [HS.out]; rfl) (by rw [HS.out]; rfl) (by rw [HS.out]; rfl))
      refine StepsJ.cons ?_ ?_
      · intro b f w1 hb hw hJ K hK
        have HB := Lib.hid hb
        have HJ := Lib.hid hJ
        have HW := Lib.hid hw
        clear hJ hw hb
        try dsimp only
        have e13 : f 13 = .bool true := HJ.out.pure 13 _ (by rw [HS.out]; rfl) (HW.out 13 (by decide))
        simp only [e13]
        rw [if_pos (by rfl)]
        go_simp
        exact hK.out _ (.bool true) _ (by (try dsimp only) <;> simp only [Act.put, List.setIfInBounds_toArray, List.set_cons_zero, List.set_cons_succ, e13]) (HJ.out.pureStep 14 _ HB.out (by rw [HS.out]; rfl) (by rw [HS.out]; rfl) (by rw [HS.out]; rfl) (by rw [HS.out]; rfl))
      refine StepsJ.cons ?_ ?_
      · intro b f w1 hb hw hJ K hK
        have HB := Lib.hid hb
        have HJ := Lib.hid hJ
        have HW := Lib.hid hw
        clear hJ hw hb
        try dsimp only
        have e14 : f 14 = .bool true := HJ.out.pure 14 _ (by rw [HS.out]; rfl) (HW.out 14 (by decide))
        simp only [e14]
        rw [if_pos (by rfl)]
        go_simp
        exact hK.out _ (.int .i64 cv) _ (by (try dsimp only) <;> simp only [Act.put, List.setIfInBounds_toArray, List.set_cons_zero, List.set_cons_succ, e14]) (HJ.out.pureStep 15 _ HB.out (by rw [HS.out]; rfl) (by rw [HS.out]; rfl) (by rw [HS.out]; rfl) (by rw [HS.out]; rfl))
      refine StepsJ.cons ?_ ?_
      · intro b f w1 hb hw hJ K hK
        have HB := Lib.hid hb
        have HJ := Lib.hid hJ
        have HW := Lib.hid hw
        clear hJ hw hb
        try dsimp only
        have e14 : f 14 = .bool true := HJ.out.pure 14 _ (by rw [HS.out]; rfl) (HW.out 14 (by decide))
        simp only [e14]
        rw [if_pos (by rfl)]
        obtain ⟨xg0, xg1, xg2, _⟩ := (Bx_8.out.kp HJ.out.k).cells
        go_simp
        exact hK.out _ (.agg #[.bool xs, .slice xq1 xr1 xs1, .slice xq2 xr2 xs2]) _ (by (try dsimp only) <;> simp only [Act.put, List.setIfInBounds_toArray, List.set_cons_zero, List.set_cons_succ, e14]) (HJ.out.pureStep 16 _ HB.out (by rw [HS.out]; rfl) (by rw [HS.out]; rfl) (by rw [HS.out]; rfl) (by rw [HS.out]; rfl))
      refine StepsJ.cons ?_ ?_
      · intro b f w1 hb hw hJ K hK
        have HB := Lib.hid hb
        have HJ := Lib.hid hJ
        have HW := Lib.hid hw
        clear hJ hw hb
        try dsimp only
        have e14 : f 14 = .bool true := HJ.out.pure 14 _ (by rw [HS.out]; rfl) (HW.out 14 (by decide))
        simp only [e14]
        rw [if_pos (by rfl)]
        obtain ⟨yg0, yg1, yg2, _⟩ := (By_8.out.kp HJ.out.k).cells
        go_simp
        exact hK.out _ (.agg #[.bool ys, .slice yq1 yr1 ys1, .slice yq2 yr2 ys2]) _ (by (try dsimp only) <;> simp only [Act.put, List.setIfInBounds_toArray, List.set_cons_zero, List.set_cons_succ, e14]) (HJ.out.pureStep 17 _ HB.out (by rw [HS.out]; rfl) (by rw [HS.out]; rfl) (by rw [HS.out]; rfl) (by rw [HS.out]; rfl))
      refine StepsJ.cons ?_ ?_
      · intro b f w1 hb hw hJ K hK
        have HB := Lib.hid hb
        have HJ := Lib.hid hJ
        have HW := Lib.hid hw
        clear hJ hw hb
        try dsimp only
        have e14 : f 14 = .bool true := HJ.out.pure 14 _ (by rw [HS.out]; rfl) (HW.out 14 (by decide))
        have e16 : f 16 = .agg #[.bool xs, .slice xq1 xr1 xs1, .slice xq2 xr2 xs2] := HJ.out.pure 16 _ (by rw [HS.out]; rfl) (HW.out 16 (by decide))
        have e17 : f 17 = .agg #[.bool ys, .slice yq1 yr1 ys1, .slice yq2 yr2 ys2] := HJ.out.pure 17 _ (by rw [HS.out]; rfl) (HW.out 17 (by decide))
        simp only [e14, e16, e17]
        rw [if_pos (by rfl)]
        go_simp
        go_at_call 29
        (with_reducible refine (C3.out _ _ _ (Vx_8.out.kp HJ.out.k) (Vy_8.out.kp HJ.out.k) (Z_8.out.kp HJ.out.k)).mono ?_)
        rintro e w2 ⟨vr, rfl, hr, kk⟩
        exact hK.out _ vr _ (by (try dsimp only) <;> simp only [Act.put, List.setIfInBounds_toArray, List.set_cons_zero, List.set_cons_succ, e14, e16, e17]) (HJ.out.callStep 18 vr _ HB.out kk hr (by rw [HS.out]; rfl) (by rw [HS.out]; rfl) (by rw [HS.out]; rfl) (by rw [HS.out]; rfl))
      refine StepsJ.cons ?_ ?_
      · intro b f w1 hb hw hJ K hK
        have HB := Lib.hid hb
        have HJ := Lib.hid hJ
        have HW := Lib.hid hw
        clear hJ hw hb
        try dsimp only
        have e14 : f 14 = .bool true := HJ.out.pure 14 _ (by rw [HS.out]; rfl) (HW.out 14 (by decide))
        simp only [e14]
        rw [if_pos (by rfl)]
        have a18 := HJ.out.call 18 _ (by rw [HS.out]; rfl) (HW.out 18 (by decide))
        have Ha18 := Lib.hid a18
        clear a18
        go_simp
        go_at_call 36
        (with_reducible refine (C4.out _ _ Ha18.out).mono ?_)
        rintro e w2 ⟨rfl, kk⟩
        exact hK.out _ (.int .i64 cv) _ (by (try dsimp only) <;> simp only [Act.put, List.setIfInBounds_toArray, List.set_cons_zero, List.set_cons_succ, e14]) ((HJ.out.later kk).pureStep 19 _ HB.out (by rw [HS.out]; rfl) (by rw [HS.out]; rfl) (by rw [HS.out]; rfl) (by rw [HS.out]; rfl))
      refine StepsJ.cons ?_ ?_
      · intro b f w1 hb hw hJ K hK
        have HB := Lib.hid hb
        have HJ := Lib.hid hJ
        have HW := Lib.hid hw
        clear hJ hw hb
        try dsimp only
        have e14 : f 14 = .bool true := HJ.out.pure 14 _ (by rw [HS.out]; rfl) (HW.out 14 (by decide))
        have e15 : f 15 = .int .i64 cv := HJ.out.pure 15 _ (by rw [HS.out]; rfl) (HW.out 15 (by decide))
        have e19 : f 19 = .int .i64 cv := HJ.out.pure 19 _ (by rw [HS.out]; rfl) (HW.out 19 (by decide))
        simp only [e14, e15, e19]
        rw [if_pos (by rfl)]
        go_simp
        exact hK.out _ (.bool true) _ (by (try dsimp only) <;> simp only [Act.put, List.setIfInBounds_toArray, List.set_cons_zero, List.set_cons_succ, e14, e15, e19]) (HJ.out.pureStep 20 _ HB.out (by rw [HS.out]; rfl) (by rw [HS.out]; rfl) (by rw [HS.out]; rfl) (by rw [HS.out]; rfl))
      refine StepsJ.cons ?_ ?_
      · intro b f w1 hb hw hJ K hK
        have HB := Lib.hid hb
        have HJ := Lib.hid hJ
        have HW := Lib.hid hw
        clear hJ hw hb
        try dsimp only
        have e14 : f 14 = .bool true := HJ.out.pure 14 _ (by rw [HS.out]; rfl) (HW.out 14 (by decide))
        have e20 : f 20 = .bool true := HJ.out.pure 20 _ (by rw [HS.out]; rfl) (HW.out 20 (by decide))
        simp only [e14, e20]
        rw [if_pos (by rfl)]
        go_simp
        exact hK.out _ (.bool true) _ (by (try dsimp only) <;> simp only [Act.put, List.setIfInBounds_toArray, List.set_cons_zero, List.set_cons_succ, e14, e20]) (HJ.out.pureStep 21 _ HB.out (by rw [HS.out]; rfl) (by rw [HS.out]; rfl) (by rw [HS.out]; rfl) (by rw [HS.out]; rfl))
      refine StepsJ.cons ?_ ?_
      · intro b f w1 hb hw hJ K hK
        have HB := Lib.hid hb
        have HJ := Lib.hid hJ
        have HW := Lib.hid hw
        clear hJ hw hb
        try dsimp only
        have e21 : f 21 = .bool true := HJ.out.pure 21 _ (by rw [HS.out]; rfl) (HW.out 21 (by decide))
        simp only [e21]
        rw [if_pos (by rfl)]
        go_simp
        exact hK.out _ (.bool true) _ (by (try dsimp only) <;> simp only [Act.put, List.setIfInBounds_toArray, List.set_cons_zero, List.set_cons_succ, e21]) (HJ.out.pureStep 22 _ HB.out (by rw [HS.out]; rfl) (by rw [HS.out]; rfl) (by rw [HS.out]; rfl) (by rw [HS.out]; rfl))
      refine StepsJ.cons ?_ ?_
      · intro b f w1 hb hw hJ K hK
        have HB := Lib.hid hb
        have HJ := Lib.hid hJ
        have HW := Lib.hid hw
        clear hJ hw hb
        try dsimp only
        have e22 : f 22 = .bool true := HJ.out.pure 22 _ (by rw [HS.out]; rfl) (HW.out 22 (by decide))
        simp only [e22]
        rw [if_pos (by rfl)]
        obtain ⟨xg0, xg1, xg2, _⟩ := (Bx_8.out.kp HJ.out.k).cells
        go_simp
        exact hK.out _ (.agg #[.bool xs, .slice xq1 xr1 xs1, .slice xq2 xr2 xs2]) _ (by (try dsimp only) <;> simp only [Act.put, List.setIfInBounds_toArray, List.set_cons_zero, List.set_cons_succ, e22]) (HJ.out.pureStep 23 _ HB.out (by rw [HS.out]; rfl) (by rw [HS.out]; rfl) (by rw [HS.out]; rfl) (by rw [HS.out]; rfl))
      refine StepsJ.cons ?_ ?_
      · intro b f w1 hb hw hJ K hK
        have HB := Lib.hid hb
        have HJ := Lib.hid hJ
        have HW := Lib.hid hw
        clear hJ hw hb
        try dsimp only
        have e22 : f 22 = .bool true := HJ.out.pure 22 _ (by rw [HS.out]; rfl) (HW.out 22 (by decide))
        simp only [e22]
        rw [if_pos (by rfl)]
        obtain ⟨zg0, zg1, zg2, _⟩ := (Bz_8.out.kp HJ.out.k).cells
        go_simp
        exact hK.out _ (.agg #[.bool zs, .slice zq1 zr1 zs1, .slice zq2 zr2 zs2]) _ (by (try dsimp only) <;> simp only [Act.put, List.setIfInBounds_toArray, List.set_cons_zero, List.set_cons_succ, e22]) (HJ.out.pureStep 24 _ HB.out (by rw [HS.out]; rfl) (by rw [HS.out]; rfl) (by rw [HS.out]; rfl) (by rw [HS.out]; rfl))
      refine StepsJ.cons ?_ ?_
      · intro b f w1 hb hw hJ K hK
        have HB := Lib.hid hb
        have HJ := Lib.hid hJ
        have HW := Lib.hid hw
        clear hJ hw hb
        try dsimp only
        have e22 : f 22 = .bool true := HJ.out.pure 22 _ (by rw [HS.out]; rfl) (HW.out 22 (by decide))
        have e23 : f 23 = .agg #[.bool xs, .slice xq1 xr1 xs1, .slice xq2 xr2 xs2] := HJ.out.pure 23 _ (by rw [HS.out]; rfl) (HW.out 23 (by decide))
        have e24 : f 24 = .agg #[.bool zs, .slice zq1 zr1 zs1, .slice zq2 zr2 zs2] := HJ.out.pure 24 _ (by rw [HS.out]; rfl) (HW.out 24 (by decide))
        simp only [e22, e23, e24]
        rw [if_pos (by rfl)]
        go_simp
        go_at_call 27
        (with_reducible refine (C5.out _ _ _ (Vx_8.out.kp HJ.out.k) (Vz_8.out.kp HJ.out.k) (Z_8.out.kp HJ.out.k)).mono ?_)
        rintro e w2 ⟨vr, rfl, hr, kk⟩
        exact hK.out _ vr _ (by (try dsimp only) <;> simp only [Act.put, List.setIfInBounds_toArray, List.set_cons_zero, List.set_cons_succ, e22, e23, e24]) (HJ.out.callStep 25 vr _ HB.out kk hr (by rw [HS.out]; rfl) (by rw [HS.out]; rfl) (by rw [HS.out]; rfl) (by rw [HS.out]; rfl))
      refine StepsJ.cons ?_ ?_
      · intro b f w1 hb hw hJ K hK
        have HB := Lib.hid hb
        have HJ := Lib.hid hJ
        have HW := Lib.hid hw
        clear hJ hw hb
        try dsimp only
        have e22 : f 22 = .bool true := HJ.out.pure 22 _ (by rw [HS.out]; rfl) (HW.out 22 (by decide))
        simp only [e22]
        rw [if_pos (by rfl)]
        obtain ⟨yg0, yg1, yg2, _⟩ := (By_8.out.kp HJ.out.k).cells
        go_simp
        exact hK.out _ (.agg #[.bool ys, .slice yq1 yr1 ys1, .slice yq2 yr2 ys2]) _ (by (try dsimp only) <;> simp only [Act.put, List.setIfInBounds_toArray, List.set_cons_zero, List.set_cons_succ, e22]) (HJ.out.pureStep 26 _ HB.out (by rw [HS.out]; rfl) (by rw [HS.out]; rfl) (by rw [HS.out]; rfl) (by rw [HS.out]; rfl))
      refine StepsJ.cons ?_ ?_
      · intro b f w1 hb hw hJ K hK
        have HB := Lib.hid hb
        have HJ := Lib.hid hJ
        have HW := Lib.hid hw
        clear hJ hw hb
        try dsimp only
        have e22 : f 22 = .bool true := HJ.out.pure 22 _ (by rw [HS.out]; rfl) (HW.out 22 (by decide))
        simp only [e22]
        rw [if_pos (by rfl)]
        obtain ⟨zg0, zg1, zg2, _⟩ := (Bz_8.out.kp HJ.out.k).cells
        go_simp
        exact hK.out _ (.agg #[.bool zs, .slice zq1 zr1 zs1, .slice zq2 zr2 zs2]) _ (by (try dsimp only) <;> simp only [Act.put, List.setIfInBounds_toArray, List.set_cons_zero, List.set_cons_succ, e22]) (HJ.out.pureStep 27 _ HB.out (by rw [HS.out]; rfl) (by rw [HS.out]; rfl) (by rw [HS.out]; rfl) (by rw [HS.out]; rfl))
      refine StepsJ.cons ?_ ?_
      · intro b f w1 hb hw hJ K hK
        have HB := Lib.hid hb
        have HJ := Lib.hid hJ
        have HW := Lib.hid hw
        clear hJ hw hb
        try dsimp only
        have e22 : f 22 = .bool true := HJ.out.pure 22 _ (by rw [HS.out]; rfl) (HW.out 22 (by decide))
        have e26 : f 26 = .agg #[.bool ys, .slice yq1 yr1 ys1, .slice yq2 yr2 ys2] := HJ.out.pure 26 _ (by rw [HS.out]; rfl) (HW.out 26 (by decide))
        have e27 : f 27 = .agg #[.bool zs, .slice zq1 zr1 zs1, .slice zq2 zr2 zs2] := HJ.out.pure 27 _ (by rw [HS.out]; rfl) (HW.out 27 (by decide))
        simp only [e22, e26, e27]
        rw [if_pos (by rfl)]
        go_simp
        go_at_call 27
        (with_reducible refine (C6.out _ _ _ (Vy_8.out.kp HJ.out.k) (Vz_8.out.kp HJ.out.k) (Z_8.out.kp HJ.out.k)).mono ?_)
        rintro e w2 ⟨vr, rfl, hr, kk⟩
        exact hK.out _ vr _ (by (try dsimp only) <;> simp only [Act.put, List.setIfInBounds_toArray, List.set_cons_zero, List.set_cons_succ, e22, e26, e27]) (HJ.out.callStep 28 vr _ HB.out kk hr (by rw [HS.out]; rfl) (by rw [HS.out]; rfl) (by rw [HS.out]; rfl) (by rw [HS.out]; rfl))
      refine StepsJ.cons ?_ ?_
      · intro b f w1 hb hw hJ K hK
        have HB := Lib.hid hb
        have HJ := Lib.hid hJ
        have HW := Lib.hid hw
        clear hJ hw hb
        try dsimp only
        have e22 : f 22 = .bool true := HJ.out.pure 22 _ (by rw [HS.out]; rfl) (HW.out 22 (by decide))
        simp only [e22]
        rw [if_pos (by rfl)]
        have a25 := HJ.out.call 25 _ (by rw [HS.out]; rfl) (HW.out 25 (by decide))
        have a28 := HJ.out.call 28 _ (by rw [HS.out]; rfl) (HW.out 28 (by decide))
        have Ha25 := Lib.hid a25
        clear a25
        have Ha28 := Lib.hid a28
        clear a28
        go_simp
        go_at_call 34
        (with_reducible refine (C7.out _ _ _ Ha25.out Ha28.out (Z_8.out.kp HJ.out.k)).mono ?_)
        rintro e w2 ⟨rfl, kk⟩
        exact hK.out _ (.int .i64 cv) _ (by (try dsimp only) <;> simp only [Act.put, List.setIfInBounds_toArray, List.set_cons_zero, List.set_cons_succ, e22]) ((HJ.out.later kk).pureStep 29 _ HB.out (by rw [HS.out]; rfl) (by rw [HS.out]; rfl) (by rw [HS.out]; rfl) (by rw [HS.out]; rfl))
      refine StepsJ.cons ?_ ?_
      · intro b f w1 hb hw hJ K hK
        have HB := Lib.hid hb
        have HJ := Lib.hid hJ
        have HW := Lib.hid hw
        clear hJ hw hb
        try dsimp only
        have e22 : f 22 = .bool true := HJ.out.pure 22 _ (by rw [HS.out]; rfl) (HW.out 22 (by decide))
        simp only [e22]
        rw [if_pos (by rfl)]
        go_simp
        exact hK.out _ (.int .i64 cv) _ (by (try dsimp only) <;> simp only [Act.put, List.setIfInBounds_toArray, List.set_cons_zero, List.set_cons_succ, e22]) (HJ.out.pureStep 30 _ HB.out (by rw [HS.out]; rfl) (by rw [HS.out]; rfl) (by rw [HS.out]; rfl) (by rw [HS.out]; rfl))
      refine StepsJ.cons ?_ ?_
      · intro b f w1 hb hw hJ K hK
        have HB := Lib.hid hb
        have HJ := Lib.hid hJ
        have HW := Lib.hid hw
        clear hJ hw hb
        try dsimp only
        have e22 : f 22 = .bool true := HJ.out.pure 22 _ (by rw [HS.out]; rfl) (HW.out 22 (by decide))
        have e29 : f 29 = .int .i64 cv := HJ.out.pure 29 _ (by rw [HS.out]; rfl) (HW.out 29 (by decide))
        have e30 : f 30 = .int .i64 cv := HJ.out.pure 30 _ (by rw [HS.out]; rfl) (HW.out 30 (by decide))
        simp only [e22, e29, e30]
        rw [if_pos (by rfl)]
        go_simp
        exact hK.out _ (.bool true) _ (by (try dsimp only) <;> simp only [Act.put, List.setIfInBounds_toArray, List.set_cons_zero, List.set_cons_succ, e22, e29, e30]) (HJ.out.pureStep 31 _ HB.out (by rw [HS.out]; rfl) (by rw [HS.out]; rfl) (by rw [HS.out]; rfl) (by rw [HS.out]; rfl))
      refine StepsJ.cons ?_ ?_
      · intro b f w1 hb hw hJ K hK
        have HB := Lib.hid hb
        have HJ := Lib.hid hJ
        have HW := Lib.hid hw
        clear hJ hw hb
        try dsimp only
        have e22 : f 22 = .bool true := HJ.out.pure 22 _ (by rw [HS.out]; rfl) (HW.out 22 (by decide))
        have e31 : f 31 = .bool true := HJ.out.pure 31 _ (by rw [HS.out]; rfl) (HW.out 31 (by decide))
        simp only [e22, e31]
        rw [if_pos (by rfl)]
        go_simp
        exact hK.out _ (.bool true) _ (by (try dsimp only) <;> simp only [Act.put, List.setIfInBounds_toArray, List.set_cons_zero, List.set_cons_succ, e22, e31]) (HJ.out.pureStep 32 _ HB.out (by rw [HS.out]; rfl) (by rw [HS.out]; rfl) (by rw [HS.out]; rfl) (by rw [HS.out]; rfl))
      refine StepsJ.cons ?_ ?_
      · intro b f w1 hb hw hJ K hK
        have HB := Lib.hid hb
        have HJ := Lib.hid hJ
        have HW := Lib.hid hw
        clear hJ hw hb
        try dsimp only
        have e32 : f 32 = .bool true := HJ.out.pure 32 _ (by rw [HS.out]; rfl) (HW.out 32 (by decide))
        simp only [e32]
        rw [if_pos (by rfl)]
        go_simp
        exact hK.out _ (.bool true) _ (by (try dsimp only) <;> simp only [Act.put, List.setIfInBounds_toArray, List.set_cons_zero, List.set_cons_succ, e32]) (HJ.out.pureStep 33 _ HB.out (by rw [HS.out]; rfl) (by rw [HS.out]; rfl) (by rw [HS.out]; rfl) (by rw [HS.out]; rfl))
      refine StepsJ.cons ?_ ?_
      · intro b f w1 hb hw hJ K hK
        have HB := Lib.hid hb
        have HJ := Lib.hid hJ
        have HW := Lib.hid hw
        clear hJ hw hb
        try dsimp only
        have e33 : f 33 = .bool true := HJ.out.pure 33 _ (by rw [HS.out]; rfl) (HW.out 33 (by decide))
        simp only [e33]
        rw [if_pos (by rfl)]
        obtain ⟨xg0, xg1, xg2, _⟩ := (Bx_8.out.kp HJ.out.k).cells
        go_simp
        exact hK.out _ (.agg #[.bool xs, .slice xq1 xr1 xs1, .slice xq2 xr2 xs2]) _ (by (try dsimp only) <;> simp only [Act.put, List.setIfInBounds_toArray, List.set_cons_zero, List.set_cons_succ, e33]) (HJ.out.pureStep 34 _ HB.out (by rw [HS.out]; rfl) (by rw [HS.out]; rfl) (by rw [HS.out]; rfl) (by rw [HS.out]; rfl))
      refine StepsJ.cons ?_ ?_
      · intro b f w1 hb hw hJ K hK
        have HB := Lib.hid hb
        have HJ := Lib.hid hJ
        have HW := Lib.hid hw
        clear hJ hw hb
        try dsimp only
        have e33 : f 33 = .bool true := HJ.out.pure 33 _ (by rw [HS.out]; rfl) (HW.out 33 (by decide))
        simp only [e33]
        rw [if_pos (by rfl)]
        obtain ⟨zg0, zg1, zg2, _⟩ := (Bz_8.out.kp HJ.out.k).cells
        go_simp
        exact hK.out _ (.agg #[.bool zs, .slice zq1 zr1 zs1, .slice zq2 zr2 zs2]) _ (by (try dsimp only) <;> simp only [Act.put, List.setIfInBounds_toArray, List.set_cons_zero, List.set_cons_succ, e33]) (HJ.out.pureStep 35 _ HB.out (by rw [HS.out]; rfl) (by rw [HS.out]; rfl) (by rw [HS.out]; rfl) (by rw [HS.out]; rfl))
      refine StepsJ.cons ?_ ?_
      · intro b f w1 hb hw hJ K hK
        have HB := Lib.hid hb
        have HJ := Lib.hid hJ
        have HW := Lib.hid hw
        clear hJ hw hb
        try dsimp only
        have e33 : f 33 = .bool true := HJ.out.pure 33 _ (by rw [HS.out]; rfl) (HW.out 33 (by decide))
        have e34 : f 34 = .agg #[.bool xs, .slice xq1 xr1 xs1, .slice xq2 xr2 xs2] := HJ.out.pure 34 _ (by rw [HS.out]; rfl) (HW.out 34 (by decide))
        have e35 : f 35 = .agg #[.bool zs, .slice zq1 zr1 zs1, .slice zq2 zr2 zs2] := HJ.out.pure 35 _ (by rw [HS.out]; rfl) (HW.out 35 (by decide))
        simp only [e33, e34, e35]
        rw [if_pos (by rfl)]
        go_simp
        go_at_call 31
        (with_reducible refine (C8.out _ _ _ (Vx_8.out.kp HJ.out.k) (Vz_8.out.kp HJ.out.k) (Z_8.out.kp HJ.out.k)).mono ?_)
        rintro e w2 ⟨vr, rfl, hr, kk⟩
        exact hK.out _ vr _ (by (try dsimp only) <;> simp only [Act.put, List.setIfInBounds_toArray, List.set_cons_zero, List.set_cons_succ, e33, e34, e35]) (HJ.out.callStep 36 vr _ HB.out kk hr (by rw [HS.out]; rfl) (by rw [HS.out]; rfl) (by rw [HS.out]; rfl) (by rw [HS.out]; rfl))
      refine StepsJ.cons ?_ ?_
      · intro b f w1 hb hw hJ K hK
        have HB := Lib.hid hb
        have HJ := Lib.hid hJ
        have HW := Lib.hid hw
        clear hJ hw hb
        try dsimp only
        have e33 : f 33 = .bool true := HJ.out.pure 33 _ (by rw [HS.out]; rfl) (HW.out 33 (by decide))
        simp only [e33]
        rw [if_pos (by rfl)]
        obtain ⟨yg0, yg1, yg2, _⟩ := (By_8.out.kp HJ.out.k).cells
        go_simp
        exact hK.out _ (.agg #[.bool ys, .slice yq1 yr1 ys1, .slice yq2 yr2 ys2]) _ (by (try dsimp only) <;> simp only [Act.put, List.setIfInBounds_toArray, List.set_cons_zero, List.set_cons_succ, e33]) (HJ.out.pureStep 37 _ HB.out (by rw [HS.out]; rfl) (by rw [HS.out]; rfl) (by rw [HS.out]; rfl) (by rw [HS.out]; rfl))
      refine StepsJ.cons ?_ ?_
      · intro b f w1 hb hw hJ K hK
        have HB := Lib.hid hb
        have HJ := Lib.hid hJ
        have HW := Lib.hid hw
        clear hJ hw hb
        try dsimp only
        have e33 : f 33 = .bool true := HJ.out.pure 33 _ (by rw [HS.out]; rfl) (HW.out 33 (by decide))
        simp only [e33]
        rw [if_pos (by rfl)]
        obtain ⟨zg0, zg1, zg2, _⟩ := (Bz_8.out.kp HJ.out.k).cells
        go_simp
        exact hK.out _ (.agg #[.bool zs, .slice zq1 zr1 zs1, .slice zq2 zr2 zs2]) _ (by (try dsimp only) <;> simp only [Act.put, List.setIfInBounds_toArray, List.set_cons_zero, List.set_cons_succ, e33]) (HJ.out.pureStep 38 _ HB.out (by rw [HS.out]; rfl) (by rw [HS.out]; rfl) (by rw [HS.out]; rfl) (by rw [HS.out]; rfl))
      refine StepsJ.cons ?_ ?_
      · intro b f w1 hb hw hJ K hK
        have HB := Lib.hid hb
        have HJ := Lib.hid hJ
        have HW := Lib.hid hw
        clear hJ hw hb
        try dsimp only
        have e33 : f 33 = .bool true := HJ.out.pure 33 _ (by rw [HS.out]; rfl) (HW.out 33 (by decide))
        have e37 : f 37 = .agg #[.bool ys, .slice yq1 yr1 ys1, .slice yq2 yr2 ys2] := HJ.out.pure 37 _ (by rw [HS.out]; rfl) (HW.out 37 (by decide))
        have e38 : f 38 = .agg #[.bool zs, .slice zq1 zr1 zs1, .slice zq2 zr2 zs2] := HJ.out.pure 38 _ (by rw [HS.out]; rfl) (HW.out 38 (by decide))
        simp only [e33, e37, e38]
        rw [if_pos (by rfl)]
        go_simp
        go_at_call 31
        (with_reducible refine (C9.out _ _ _ (Vy_8.out.kp HJ.out.k) (Vz_8.out.kp HJ.out.k) (Z_8.out.kp HJ.out.k)).mono ?_)
        rintro e w2 ⟨vr, rfl, hr, kk⟩
        exact hK.out _ vr _ (by (try dsimp only) <;> simp only [Act.put, List.setIfInBounds_toArray, List.set_cons_zero, List.set_cons_succ, e33, e37, e38]) (HJ.out.callStep 39 vr _ HB.out kk hr (by rw [HS.out]; rfl) (by rw [HS.out]; rfl) (by rw [HS.out]; rfl) (by rw [HS.out]; rfl))
      refine StepsJ.cons ?_ ?_
      · intro b f w1 hb hw hJ K hK
        have HB := Lib.hid hb
        have HJ := Lib.hid hJ
        have HW := Lib.hid hw
        clear hJ hw hb
        try dsimp only
        have e33 : f 33 = .bool true := HJ.out.pure 33 _ (by rw [HS.out]; rfl) (HW.out 33 (by decide))
        simp only [e33]
        rw [if_pos (by rfl)]
        have a36 := HJ.out.call 36 _ (by rw [HS.out]; rfl) (HW.out 36 (by decide))
        have a39 := HJ.out.call 39 _ (by rw [HS.out]; rfl) (HW.out 39 (by decide))
        have Ha36 := Lib.hid a36
        clear a36
        have Ha39 := Lib.hid a39
        clear a39
        go_simp
        go_at_call 34
        (with_reducible refine (C10.out _ _ _ Ha36.out Ha39.out (Z_8.out.kp HJ.out.k)).mono ?_)
        rintro e w2 ⟨rfl, kk⟩
        exact hK.out _ (.int .i64 cm) _ (by (try dsimp only) <;> simp only [Act.put, List.setIfInBounds_toArray, List.set_cons_zero, List.set_cons_succ, e33]) ((HJ.out.later kk).pureStep 40 _ HB.out (by rw [HS.out]; rfl) (by rw [HS.out]; rfl) (by rw [HS.out]; rfl) (by rw [HS.out]; rfl))
      refine StepsJ.cons ?_ ?_
      · intro b f w1 hb hw hJ K hK
        have HB := Lib.hid hb
        have HJ := Lib.hid hJ
        have HW := Lib.hid hw
        clear hJ hw hb
        try dsimp only
        have e33 : f 33 = .bool true := HJ.out.pure 33 _ (by rw [HS.out]; rfl) (HW.out 33 (by decide))
        simp only [e33]
        rw [if_pos (by rfl)]
        go_simp
        exact hK.out _ (.int .i64 cv) _ (by (try dsimp only) <;> simp only [Act.put, List.setIfInBounds_toArray, List.set_cons_zero, List.set_cons_succ, e33]) (HJ.out.pureStep 41 _ HB.out (by rw [HS.out]; rfl) (by rw [HS.out]; rfl) (by rw [HS.out]; rfl) (by rw [HS.out]; rfl))
      refine StepsJ.cons ?_ ?_
      · intro b f w1 hb hw hJ K hK
        have HB := Lib.hid hb
        have HJ := Lib.hid hJ
        have HW := Lib.hid hw
        clear hJ hw hb
        try dsimp only
        have e33 : f 33 = .bool true := HJ.out.pure 33 _ (by rw [HS.out]; rfl) (HW.out 33 (by decide))
        simp only [e33]
        rw [if_pos (by rfl)]
        obtain ⟨zg0, zg1, zg2, _⟩ := (Bz_8.out.kp HJ.out.k).cells
        go_simp
        exact hK.out _ (.agg #[.bool zs, .slice zq1 zr1 zs1, .slice zq2 zr2 zs2]) _ (by (try dsimp only) <;> simp only [Act.put, List.setIfInBounds_toArray, List.set_cons_zero, List.set_cons_succ, e33]) (HJ.out.pureStep 42 _ HB.out (by rw [HS.out]; rfl) (by rw [HS.out]; rfl) (by rw [HS.out]; rfl) (by rw [HS.out]; rfl))
      refine StepsJ.cons ?_ ?_
      · intro b f w1 hb hw hJ K hK
        have HB := Lib.hid hb
        have HJ := Lib.hid hJ
        have HW := Lib.hid hw
        clear hJ hw hb
        try dsimp only
        have e33 : f 33 = .bool true := HJ.out.pure 33 _ (by rw [HS.out]; rfl) (HW.out 33 (by decide))
        have e42 : f 42 = .agg #[.bool zs, .slice zq1 zr1 zs1, .slice zq2 zr2 zs2] := HJ.out.pure 42 _ (by rw [HS.out]; rfl) (HW.out 42 (by decide))
        simp only [e33, e42]
        rw [if_pos (by rfl)]
        go_simp
        go_at_call 36
        (with_reducible refine (C11.out _ _ (Vz_8.out.kp HJ.out.k)).mono ?_)
        rintro e w2 ⟨rfl, kk⟩
        exact hK.out _ (.int .i64 sz) _ (by (try dsimp only) <;> simp only [Act.put, List.setIfInBounds_toArray, List.set_cons_zero, List.set_cons_succ, e33, e42]) ((HJ.out.later kk).pureStep 43 _ HB.out (by rw [HS.out]; rfl) (by rw [HS.out]; rfl) (by rw [HS.out]; rfl) (by rw [HS.out]; rfl))
      refine StepsJ.cons ?_ ?_
      · intro b f w1 hb hw hJ K hK
        have HB := Lib.hid hb
        have HJ := Lib.hid hJ
        have HW := Lib.hid hw
        clear hJ hw hb
        try dsimp only
        have e33 : f 33 = .bool true := HJ.out.pure 33 _ (by rw [HS.out]; rfl) (HW.out 33 (by decide))
        have e41 : f 41 = .int .i64 cv := HJ.out.pure 41 _ (by rw [HS.out]; rfl) (HW.out 41 (by decide))
        have e43 : f 43 = .int .i64 sz := HJ.out.pure 43 _ (by rw [HS.out]; rfl) (HW.out 43 (by decide))
        simp only [e33, e41, e43]
        rw [if_pos (by rfl)]
        go_simp
        exact hK.out _ (.int .i64 cm) _ (by (try dsimp only) <;> simp only [Act.put, List.setIfInBounds_toArray, List.set_cons_zero, List.set_cons_succ, e33, e41, e43]) (HJ.out.pureStep 44 _ HB.out (by rw [HS.out]; rfl) (by rw [HS.out]; rfl) (by rw [HS.out]; rfl) (by rw [HS.out]; rfl))
      refine StepsJ.cons ?_ ?_
      · intro b f w1 hb hw hJ K hK
        have HB := Lib.hid hb
        have HJ := Lib.hid hJ
        have HW := Lib.hid hw
        clear hJ hw hb
        try dsimp only
        have e33 : f 33 = .bool true := HJ.out.pure 33 _ (by rw [HS.out]; rfl) (HW.out 33 (by decide))
        have e40 : f 40 = .int .i64 cm := HJ.out.pure 40 _ (by rw [HS.out]; rfl) (HW.out 40 (by decide))
        have e44 : f 44 = .int .i64 cm := HJ.out.pure 44 _ (by rw [HS.out]; rfl) (HW.out 44 (by decide))
        simp only [e33, e40, e44]
        rw [if_pos (by rfl)]
        go_simp
        exact hK.out _ (.bool true) _ (by (try dsimp only) <;> simp only [Act.put, List.setIfInBounds_toArray, List.set_cons_zero, List.set_cons_succ, e33, e40, e44]) (HJ.out.pureStep 45 _ HB.out (by rw [HS.out]; rfl) (by rw [HS.out]; rfl) (by rw [HS.out]; rfl) (by rw [HS.out]; rfl))
      refine StepsJ.cons ?_ ?_
      · intro b f w1 hb hw hJ K hK
        have HB := Lib.hid hb
        have HJ := Lib.hid hJ
        have HW := Lib.hid hw
        clear hJ hw hb
        try dsimp only
        have e33 : f 33 = .bool true := HJ.out.pure 33 _ (by rw [HS.out]; rfl) (HW.out 33 (by decide))
        have e45 : f 45 = .bool true := HJ.out.pure 45 _ (by rw [HS.out]; rfl) (HW.out 45 (by decide))
        simp only [e33, e45]
        rw [if_pos (by rfl)]
        go_simp
        exact hK.out _ (.bool true) _ (by (try dsimp only) <;> simp only [Act.put, List.setIfInBounds_toArray, List.set_cons_zero, List.set_cons_succ, e33, e45]) (HJ.out.pureStep 46 _ HB.out (by rw [HS.out]; rfl) (by rw [HS.out]; rfl) (by rw [HS.out]; rfl) (by rw [HS.out]; rfl))
      refine StepsJ.cons ?_ ?_
      · intro b f w1 hb hw hJ K hK
        have HB := Lib.hid hb
        have HJ := Lib.hid hJ
        have HW := Lib.hid hw
        clear hJ hw hb
        try dsimp only
        have e46 : f 46 = .bool true := HJ.out.pure 46 _ (by rw [HS.out]; rfl) (HW.out 46 (by decide))
        simp only [e46]
        rw [if_pos (by rfl)]
        go_simp
        exact hK.out _ (.bool true) _ (by (try dsimp only) <;> simp only [Act.put, List.setIfInBounds_toArray, List.set_cons_zero, List.set_cons_succ, e46]) (HJ.out.pureStep 47 _ HB.out (by rw [HS.out]; rfl) (by rw [HS.out]; rfl) (by rw [HS.out]; rfl) (by rw [HS.out]; rfl))
      refine StepsJ.cons ?_ ?_
      · intro b f w1 hb hw hJ K hK
        have HB := Lib.hid hb
        have HJ := Lib.hid hJ
        have HW := Lib.hid hw
        clear hJ hw hb
        try dsimp only
        have e47 : f 47 = .bool true := HJ.out.pure 47 _ (by rw [HS.out]; rfl) (HW.out 47 (by decide))
        simp only [e47]
        rw [if_pos (by rfl)]
        go_simp
        go_at_call 14
        (with_reducible refine (CAW.out _ (T_8.out.kp HJ.out.k).k (Z_8.out.kp HJ.out.k)).mono ?_)
        rintro e w2 ⟨rfl, kk⟩
        exact hK.out _ (.bool true) _ (by (try dsimp only) <;> simp only [Act.put, List.setIfInBounds_toArray, List.set_cons_zero, List.set_cons_succ, e47]) ((HJ.out.later kk).pureStep 48 _ HB.out (by rw [HS.out]; rfl) (by rw [HS.out]; rfl) (by rw [HS.out]; rfl) (by rw [HS.out]; rfl))
      refine StepsJ.cons ?_ ?_
      · intro b f w1 hb hw hJ K hK
        have HB := Lib.hid hb
        have HJ := Lib.hid hJ
        have HW := Lib.hid hw
        clear hJ hw hb
        try dsimp only
        have e47 : f 47 = .bool true := HJ.out.pure 47 _ (by rw [HS.out]; rfl) (HW.out 47 (by decide))
        have e48 : f 48 = .bool true := HJ.out.pure 48 _ (by rw [HS.out]; rfl) (HW.out 48 (by decide))
        simp only [e47, e48]
        rw [if_pos (by rfl)]
        go_simp
        exact hK.out _ (.bool true) _ (by (try dsimp only) <;> simp only [Act.put, List.setIfInBounds_toArray, List.set_cons_zero, List.set_cons_succ, e47, e48]) (HJ.out.pureStep 49 _ HB.out (by rw [HS.out]; rfl) (by rw [HS.out]; rfl) (by rw [HS.out]; rfl) (by rw [HS.out]; rfl))
      refine StepsJ.cons ?_ ?_
      · intro b f w1 hb hw hJ K hK
        have HB := Lib.hid hb
        have HJ := Lib.hid hJ
        have HW := Lib.hid hw
        clear hJ hw hb
        try dsimp only
        have e49 : f 49 = .bool true := HJ.out.pure 49 _ (by rw [HS.out]; rfl) (HW.out 49 (by decide))
        simp only [e49]
        rw [if_pos (by rfl)]
        go_simp
        exact hK.out _ (.bool true) _ (by (try dsimp only) <;> simp only [Act.put, List.setIfInBounds_toArray, List.set_cons_zero, List.set_cons_succ, e49]) (HJ.out.pureStep 50 _ HB.out (by rw [HS.out]; rfl) (by rw [HS.out]; rfl) (by rw [HS.out]; rfl) (by rw [HS.out]; rfl))
      exact StepsJ.nil
    case hend =>
      intro b f w9 hb hJ
      try dsimp only
      have e50 : f 50 = .bool true := hJ.pure 50 _ (by rw [HS.out]; rfl) (hb 50 (by decide))
      have kk := hJ.k
      clear hJ hb
      have T_9 := Lib.hid (T_8.out.kp kk)
      have Z_9 := Lib.hid (Z_8.out.kp kk)
      have Vx_9 := Lib.hid (Vx_8.out.kp kk)
      have Bx_9 := Lib.hid (Bx_8.out.kp kk)
      have Vy_9 := Lib.hid (Vy_8.out.kp kk)
      have By_9 := Lib.hid (By_8.out.kp kk)
      have Vz_9 := Lib.hid (Vz_8.out.kp kk)
      have Bz_9 := Lib.hid (Bz_8.out.kp kk)
      clear kk T_8 Z_8 Vx_8 Bx_8 Vy_8 By_8 Vz_8 Bz_8
      simp only [e50]
      clear e50
      generalize f 0 = yb0
      generalize f 1 = yb1
      generalize f 2 = yb2
      generalize f 3 = yb3
      generalize f 4 = yb4
      generalize f 5 = yb5
      generalize f 6 = yb6
      generalize f 7 = yb7
      generalize f 8 = yb8
      generalize f 9 = yb9
      generalize f 10 = yb10
      generalize f 11 = yb11
      generalize f 12 = yb12
      generalize f 13 = yb13
      generalize f 14 = yb14
      generalize f 15 = yb15
      generalize f 16 = yb16
      generalize f 17 = yb17
      generalize f 18 = yb18
      generalize f 19 = yb19
      generalize f 20 = yb20
      generalize f 21 = yb21
      generalize f 22 = yb22
      generalize f 23 = yb23
      generalize f 24 = yb24
      generalize f 25 = yb25
      generalize f 26 = yb26
      generalize f 27 = yb27
      generalize f 28 = yb28
      generalize f 29 = yb29
      generalize f 30 = yb30
      generalize f 31 = yb31
      generalize f 32 = yb32
      generalize f 33 = yb33
      generalize f 34 = yb34
      generalize f 35 = yb35
      generalize f 36 = yb36
      generalize f 37 = yb37
      generalize f 38 = yb38
      generalize f 39 = yb39
      generalize f 40 = yb40
      generalize f 41 = yb41
      generalize f 42 = yb42
      generalize f 43 = yb43
      generalize f 44 = yb44
      generalize f 45 = yb45
      generalize f 46 = yb46
      generalize f 47 = yb47
      generalize f 48 = yb48
      generalize f 49 = yb49
      clear HS S f b
      obtain ⟨xz0, xz1, xz2⟩ := T_9.out.ra.cells
      obtain ⟨yz0, yz1, yz2⟩ := T_9.out.rb.cells
      obtain ⟨zz0, zz1, zz2⟩ := T_9.out.rc.cells
      obtain ⟨xg0, xg1, xg2, _⟩ := Bx_9.out.cells
      obtain ⟨yg0, yg1, yg2, _⟩ := By_9.out.cells
      obtain ⟨zg0, zg1, zg2, _⟩ := Bz_9.out.cells
      go_wp2
      go_ret
      exact ⟨rfl, T_9.out.k⟩

theorem order_walk {w : World} {sa : Bool} {ua ub : Value} {n1 d1 : List Nat} {sb : Bool} {va vb : Value} {n2 d2 : List Nat} {sc : Bool} {wa wb : Value} {n3 d3 : List Nat} (hua : Rd w ua n1) (hub : Rd w ub d1) (hva : Rd w va n2) (hvb : Rd w vb d2) (hwa : Rd w wa n3) (hwb : Rd w wb d3) (htab : Lib.TabIs Tryz.prog w "internal/strconv.uint64pow10" .u64 Lib.pow10Tab) (hZ : Tz w) :
    Calls Tryz.prog 10 #[.agg #[.bool sa, ua, ub], .agg #[.bool sb, va, vb], .agg #[.bool sc, wa, wb]] w fun e w' => e = .returned (.bool true) ∧ Kp w w' := by
  by_cases hl1 : n1.length ≤ 16 ∧ d1.length ≤ 16
  rotate_left
  · exact order_no1 hua hub hva hvb hwa hwb hl1 htab hZ
  by_cases hl2 : n2.length ≤ 16 ∧ d2.length ≤ 16
  rotate_left
  · exact order_no2 hua hub hva hvb hwa hwb hl1 hl2 htab hZ
  by_cases hl3 : n3.length ≤ 16 ∧ d3.length ≤ 16
  rotate_left
  · exact order_no3 hua hub hva hvb hwa hwb hl1 hl2 hl3 htab hZ
  exact order_yes hua hub hva hvb hwa hwb ⟨hl1, hl2, hl3⟩ htab hZ
end Go.Proofs.YtmnnnoeenfmckaaGreatDoor
