/-
  brepkernellaw02.RationalField: by the contracts.
-/
import Derived.Test.YtmnnnoeenfmckaaGreatDoorReg
import Derived.Test.YtmnnnoeenfmckaaGreatDoorRw
import Derived.Test.YtmnnnoeenfmckaaGreatDoorBq
import Derived.Test.YtmnnnoeenfmckaaGreatDoorRatR
import Derived.Test.YtmnnnoeenfmckaaGreatDoorBs
import Derived.Test.YtmnnnoeenfmckaaGreatDoorBn
import Derived.Test.YtmnnnoeenfmckaaGreatDoorBo
import Derived.Test.YtmnnnoeenfmckaaGreatDoorBk
import Derived.Test.YtmnnnoeenfmckaaGreatDoorVv
namespace Go.Proofs.YtmnnnoeenfmckaaGreatDoor
open Go.RowKit

set_option maxRecDepth 20000 in
set_option maxHeartbeats 4000000 in
theorem field_no1 {w : World} {sa : Bool} {ua ub : Value} {n1 d1 : List Nat} {sb : Bool} {va vb : Value} {n2 d2 : List Nat} {sc : Bool} {wa wb : Value} {n3 d3 : List Nat} (hua : Rd w ua n1) (hub : Rd w ub d1) (hva : Rd w va n2) (hvb : Rd w vb d2) (hwa : Rd w wa n3) (hwb : Rd w wb d3) (hn : ¬ (n1.length ≤ 16 ∧ d1.length ≤ 16)) (htab : Lib.TabIs Tryz.prog w "internal/strconv.uint64pow10" .u64 Lib.pow10Tab) (hZ : Tz w) :
    Calls Tryz.prog 9 #[.agg #[.bool sa, ua, ub], .agg #[.bool sb, va, vb], .agg #[.bool sc, wa, wb]] w fun e w' => e = .returned (.bool true) ∧ Kp w w' := by
  have HTB := Lib.hid (Lib.tabBelow_of_tabIs htab)
  have HZ := Lib.hid hZ
  have CAW := Lib.hid (fun w' (kk : Kp w w') (t : Tz w') => qawake_any w' t (tabKp HTB.out kk))
  have CL1 := Lib.hid (fun w' (kk : Kp w w') => qlight_no (s := sa) (hua.kp kk) (hub.kp kk) hn)
  obtain ⟨xo1, xl1, xc1, rfl⟩ := rd_slice hua
  obtain ⟨xo2, xl2, xc2, rfl⟩ := rd_slice hub
  obtain ⟨yo1, yl1, yc1, rfl⟩ := rd_slice hva
  obtain ⟨yo2, yl2, yc2, rfl⟩ := rd_slice hvb
  obtain ⟨zo1, zl1, zc1, rfl⟩ := rd_slice hwa
  obtain ⟨zo2, zl2, zc2, rfl⟩ := rd_slice hwb
  have HT := Lib.hid (Rw3.new w (.bool sa) (.slice xo1 xl1 xc1) (.slice xo2 xl2 xc2) (.bool sb) (.slice yo1 yl1 yc1) (.slice yo2 yl2 yc2) (.bool sc) (.slice zo1 zl1 zc1) (.slice zo2 zl2 zc2))
  clear hua hub hva hvb hwa hwb htab hZ hn
  go_enter Tryz.func9, Tryz.ntmps9
  have Z_e := Lib.hid (HZ.out.kp HT.out.k)
  obtain ⟨xz0, xz1, xz2⟩ := HT.out.ra.cells
  obtain ⟨yz0, yz1, yz2⟩ := HT.out.rb.cells
  obtain ⟨zz0, zz1, zz2⟩ := HT.out.rc.cells
  go_wp2_with (go_at_call 13; (with_reducible refine (CL1.out _ HT.out.k).mono ?_); rintro e w2 ⟨rfl, k2⟩; refine Hid.out ?_)
  refine Lib.hid ?_
  have T_2 := Lib.hid (HT.out.kp k2)
  have Z_2 := Lib.hid (Z_e.out.kp k2)
  clear HT Z_e
  clear k2
  obtain ⟨xz0, xz1, xz2⟩ := T_2.out.ra.cells
  obtain ⟨yz0, yz1, yz2⟩ := T_2.out.rb.cells
  obtain ⟨zz0, zz1, zz2⟩ := T_2.out.rc.cells
  go_wp2_with (go_at_call 14; (with_reducible refine (CAW.out _ T_2.out.k Z_2.out).mono ?_); rintro e w3 ⟨rfl, k3⟩; refine Hid.out ?_)
  refine Lib.hid ?_
  have T_3 := Lib.hid (T_2.out.kp k3)
  have Z_3 := Lib.hid (Z_2.out.kp k3)
  clear T_2 Z_2
  clear k3
  obtain ⟨xz0, xz1, xz2⟩ := T_3.out.ra.cells
  obtain ⟨yz0, yz1, yz2⟩ := T_3.out.rb.cells
  obtain ⟨zz0, zz1, zz2⟩ := T_3.out.rc.cells
  go_wp2
  go_ret
  exact ⟨rfl, T_3.out.k⟩

set_option maxRecDepth 20000 in
set_option maxHeartbeats 4000000 in
theorem field_no2 {w : World} {sa : Bool} {ua ub : Value} {n1 d1 : List Nat} {sb : Bool} {va vb : Value} {n2 d2 : List Nat} {sc : Bool} {wa wb : Value} {n3 d3 : List Nat} (hua : Rd w ua n1) (hub : Rd w ub d1) (hva : Rd w va n2) (hvb : Rd w vb d2) (hwa : Rd w wa n3) (hwb : Rd w wb d3) (hl1 : n1.length ≤ 16 ∧ d1.length ≤ 16) (hn : ¬ (n2.length ≤ 16 ∧ d2.length ≤ 16)) (htab : Lib.TabIs Tryz.prog w "internal/strconv.uint64pow10" .u64 Lib.pow10Tab) (hZ : Tz w) :
    Calls Tryz.prog 9 #[.agg #[.bool sa, ua, ub], .agg #[.bool sb, va, vb], .agg #[.bool sc, wa, wb]] w fun e w' => e = .returned (.bool true) ∧ Kp w w' := by
  have HTB := Lib.hid (Lib.tabBelow_of_tabIs htab)
  have HZ := Lib.hid hZ
  have CAW := Lib.hid (fun w' (kk : Kp w w') (t : Tz w') => qawake_any w' t (tabKp HTB.out kk))
  have CL1 := Lib.hid (fun w' (kk : Kp w w') => qlight_yes (s := sa) (hua.kp kk) (hub.kp kk) hl1)
  have CL2 := Lib.hid (fun w' (kk : Kp w w') => qlight_no (s := sb) (hva.kp kk) (hvb.kp kk) hn)
  obtain ⟨xo1, xl1, xc1, rfl⟩ := rd_slice hua
  obtain ⟨xo2, xl2, xc2, rfl⟩ := rd_slice hub
  obtain ⟨yo1, yl1, yc1, rfl⟩ := rd_slice hva
  obtain ⟨yo2, yl2, yc2, rfl⟩ := rd_slice hvb
  obtain ⟨zo1, zl1, zc1, rfl⟩ := rd_slice hwa
  obtain ⟨zo2, zl2, zc2, rfl⟩ := rd_slice hwb
  have HT := Lib.hid (Rw3.new w (.bool sa) (.slice xo1 xl1 xc1) (.slice xo2 xl2 xc2) (.bool sb) (.slice yo1 yl1 yc1) (.slice yo2 yl2 yc2) (.bool sc) (.slice zo1 zl1 zc1) (.slice zo2 zl2 zc2))
  clear hua hub hva hvb hwa hwb htab hZ hn hl1
  go_enter Tryz.func9, Tryz.ntmps9
  have Z_e := Lib.hid (HZ.out.kp HT.out.k)
  obtain ⟨xz0, xz1, xz2⟩ := HT.out.ra.cells
  obtain ⟨yz0, yz1, yz2⟩ := HT.out.rb.cells
  obtain ⟨zz0, zz1, zz2⟩ := HT.out.rc.cells
  go_wp2_with (go_at_call 13; (with_reducible refine (CL1.out _ HT.out.k).mono ?_); rintro e w2 ⟨rfl, k2⟩; refine Hid.out ?_)
  refine Lib.hid ?_
  have T_2 := Lib.hid (HT.out.kp k2)
  have Z_2 := Lib.hid (Z_e.out.kp k2)
  clear HT Z_e
  clear k2
  obtain ⟨xz0, xz1, xz2⟩ := T_2.out.ra.cells
  obtain ⟨yz0, yz1, yz2⟩ := T_2.out.rb.cells
  obtain ⟨zz0, zz1, zz2⟩ := T_2.out.rc.cells
  go_wp2_with (go_at_call 13; (with_reducible refine (CL2.out _ T_2.out.k).mono ?_); rintro e w3 ⟨rfl, k3⟩; refine Hid.out ?_)
  refine Lib.hid ?_
  have T_3 := Lib.hid (T_2.out.kp k3)
  have Z_3 := Lib.hid (Z_2.out.kp k3)
  clear T_2 Z_2
  clear k3
  obtain ⟨xz0, xz1, xz2⟩ := T_3.out.ra.cells
  obtain ⟨yz0, yz1, yz2⟩ := T_3.out.rb.cells
  obtain ⟨zz0, zz1, zz2⟩ := T_3.out.rc.cells
  go_wp2_with (go_at_call 14; (with_reducible refine (CAW.out _ T_3.out.k Z_3.out).mono ?_); rintro e w4 ⟨rfl, k4⟩; refine Hid.out ?_)
  refine Lib.hid ?_
  have T_4 := Lib.hid (T_3.out.kp k4)
  have Z_4 := Lib.hid (Z_3.out.kp k4)
  clear T_3 Z_3
  clear k4
  obtain ⟨xz0, xz1, xz2⟩ := T_4.out.ra.cells
  obtain ⟨yz0, yz1, yz2⟩ := T_4.out.rb.cells
  obtain ⟨zz0, zz1, zz2⟩ := T_4.out.rc.cells
  go_wp2
  go_ret
  exact ⟨rfl, T_4.out.k⟩

set_option maxRecDepth 20000 in
set_option maxHeartbeats 4000000 in
theorem field_no3 {w : World} {sa : Bool} {ua ub : Value} {n1 d1 : List Nat} {sb : Bool} {va vb : Value} {n2 d2 : List Nat} {sc : Bool} {wa wb : Value} {n3 d3 : List Nat} (hua : Rd w ua n1) (hub : Rd w ub d1) (hva : Rd w va n2) (hvb : Rd w vb d2) (hwa : Rd w wa n3) (hwb : Rd w wb d3) (hl1 : n1.length ≤ 16 ∧ d1.length ≤ 16) (hl2 : n2.length ≤ 16 ∧ d2.length ≤ 16) (hn : ¬ (n3.length ≤ 16 ∧ d3.length ≤ 16)) (htab : Lib.TabIs Tryz.prog w "internal/strconv.uint64pow10" .u64 Lib.pow10Tab) (hZ : Tz w) :
    Calls Tryz.prog 9 #[.agg #[.bool sa, ua, ub], .agg #[.bool sb, va, vb], .agg #[.bool sc, wa, wb]] w fun e w' => e = .returned (.bool true) ∧ Kp w w' := by
  have HTB := Lib.hid (Lib.tabBelow_of_tabIs htab)
  have HZ := Lib.hid hZ
  have CAW := Lib.hid (fun w' (kk : Kp w w') (t : Tz w') => qawake_any w' t (tabKp HTB.out kk))
  have CL1 := Lib.hid (fun w' (kk : Kp w w') => qlight_yes (s := sa) (hua.kp kk) (hub.kp kk) hl1)
  have CL2 := Lib.hid (fun w' (kk : Kp w w') => qlight_yes (s := sb) (hva.kp kk) (hvb.kp kk) hl2)
  have CL3 := Lib.hid (fun w' (kk : Kp w w') => qlight_no (s := sc) (hwa.kp kk) (hwb.kp kk) hn)
  obtain ⟨xo1, xl1, xc1, rfl⟩ := rd_slice hua
  obtain ⟨xo2, xl2, xc2, rfl⟩ := rd_slice hub
  obtain ⟨yo1, yl1, yc1, rfl⟩ := rd_slice hva
  obtain ⟨yo2, yl2, yc2, rfl⟩ := rd_slice hvb
  obtain ⟨zo1, zl1, zc1, rfl⟩ := rd_slice hwa
  obtain ⟨zo2, zl2, zc2, rfl⟩ := rd_slice hwb
  have HT := Lib.hid (Rw3.new w (.bool sa) (.slice xo1 xl1 xc1) (.slice xo2 xl2 xc2) (.bool sb) (.slice yo1 yl1 yc1) (.slice yo2 yl2 yc2) (.bool sc) (.slice zo1 zl1 zc1) (.slice zo2 zl2 zc2))
  clear hua hub hva hvb hwa hwb htab hZ hn hl1 hl2
  go_enter Tryz.func9, Tryz.ntmps9
  have Z_e := Lib.hid (HZ.out.kp HT.out.k)
  obtain ⟨xz0, xz1, xz2⟩ := HT.out.ra.cells
  obtain ⟨yz0, yz1, yz2⟩ := HT.out.rb.cells
  obtain ⟨zz0, zz1, zz2⟩ := HT.out.rc.cells
  go_wp2_with (go_at_call 13; (with_reducible refine (CL1.out _ HT.out.k).mono ?_); rintro e w2 ⟨rfl, k2⟩; refine Hid.out ?_)
  refine Lib.hid ?_
  have T_2 := Lib.hid (HT.out.kp k2)
  have Z_2 := Lib.hid (Z_e.out.kp k2)
  clear HT Z_e
  clear k2
  obtain ⟨xz0, xz1, xz2⟩ := T_2.out.ra.cells
  obtain ⟨yz0, yz1, yz2⟩ := T_2.out.rb.cells
  obtain ⟨zz0, zz1, zz2⟩ := T_2.out.rc.cells
  go_wp2_with (go_at_call 13; (with_reducible refine (CL2.out _ T_2.out.k).mono ?_); rintro e w3 ⟨rfl, k3⟩; refine Hid.out ?_)
  refine Lib.hid ?_
  have T_3 := Lib.hid (T_2.out.kp k3)
  have Z_3 := Lib.hid (Z_2.out.kp k3)
  clear T_2 Z_2
  clear k3
  obtain ⟨xz0, xz1, xz2⟩ := T_3.out.ra.cells
  obtain ⟨yz0, yz1, yz2⟩ := T_3.out.rb.cells
  obtain ⟨zz0, zz1, zz2⟩ := T_3.out.rc.cells
  go_wp2_with (go_at_call 13; (with_reducible refine (CL3.out _ T_3.out.k).mono ?_); rintro e w4 ⟨rfl, k4⟩; refine Hid.out ?_)
  refine Lib.hid ?_
  have T_4 := Lib.hid (T_3.out.kp k4)
  have Z_4 := Lib.hid (Z_3.out.kp k4)
  clear T_3 Z_3
  clear k4
  obtain ⟨xz0, xz1, xz2⟩ := T_4.out.ra.cells
  obtain ⟨yz0, yz1, yz2⟩ := T_4.out.rb.cells
  obtain ⟨zz0, zz1, zz2⟩ := T_4.out.rc.cells
  go_wp2_with (go_at_call 14; (with_reducible refine (CAW.out _ T_4.out.k Z_4.out).mono ?_); rintro e w5 ⟨rfl, k5⟩; refine Hid.out ?_)
  refine Lib.hid ?_
  have T_5 := Lib.hid (T_4.out.kp k5)
  have Z_5 := Lib.hid (Z_4.out.kp k5)
  clear T_4 Z_4
  clear k5
  obtain ⟨xz0, xz1, xz2⟩ := T_5.out.ra.cells
  obtain ⟨yz0, yz1, yz2⟩ := T_5.out.rb.cells
  obtain ⟨zz0, zz1, zz2⟩ := T_5.out.rc.cells
  go_wp2
  go_ret
  exact ⟨rfl, T_5.out.k⟩

theorem rsz_inv {k : Nat} {x : Rat} (h : RSz k x) : RSz k x⁻¹ := by
  constructor
  · rw [Rat.num_inv, Int.natAbs_mul]
    refine h.2.le ?_
    have h1 : x.num.sign.natAbs ≤ 1 := by
      rcases Int.lt_trichotomy x.num 0 with h | h | h
      · rw [Int.sign_eq_neg_one_of_neg h]; decide
      · rw [h]; decide
      · rw [Int.sign_eq_one_of_pos h]; decide
    have h2 : ((x.den : Int)).natAbs = x.den := rfl
    rw [h2]
    calc x.num.sign.natAbs * x.den ≤ 1 * x.den := Nat.mul_le_mul_right _ h1
      _ = x.den := Nat.one_mul _
  · rw [Rat.den_inv]
    split
    · exact h.2.le (Nat.one_le_iff_ne_zero.2 x.den_nz)
    · exact h.1
theorem qvalid_j {w : World} {v : Value} {x : Rat} {j : Nat} (h : RatV w v x) (hs : RSz j x) (hj : j ≤ 1000) (hT : Tz w) :
    Calls Tryz.prog 17 #[v] w fun e w' => e = .returned (.bool true) ∧ Kp w w' := by
  by_cases h0 : x.num = 0
  · exact valid_zero h h0
  · exact valid_some h h0 hs (by omega) hT

set_option maxRecDepth 20000 in
set_option maxHeartbeats 4000000 in
theorem field_zero {w : World} {sa : Bool} {ua ub : Value} {n1 d1 : List Nat} {sb : Bool} {va vb : Value} {n2 d2 : List Nat} {sc : Bool} {wa wb : Value} {n3 d3 : List Nat} (hua : Rd w ua n1) (hub : Rd w ub d1) (hva : Rd w va n2) (hvb : Rd w vb d2) (hwa : Rd w wa n3) (hwb : Rd w wb d3) (h0 : numR sb n2 d2 = 0) (hl : (n1.length ≤ 16 ∧ d1.length ≤ 16) ∧ (n2.length ≤ 16 ∧ d2.length ≤ 16) ∧ (n3.length ≤ 16 ∧ d3.length ≤ 16)) (htab : Lib.TabIs Tryz.prog w "internal/strconv.uint64pow10" .u64 Lib.pow10Tab) (hZ : Tz w) :
    Calls Tryz.prog 9 #[.agg #[.bool sa, ua, ub], .agg #[.bool sb, va, vb], .agg #[.bool sc, wa, wb]] w fun e w' => e = .returned (.bool true) ∧ Kp w w' := by
  have HTB := Lib.hid (Lib.tabBelow_of_tabIs htab)
  have HZ := Lib.hid hZ
  have CAW := Lib.hid (fun w' (kk : Kp w w') (t : Tz w') => qawake_any w' t (tabKp HTB.out kk))
  obtain ⟨hl1, hl2, hl3⟩ := hl
  have CL1 := Lib.hid (fun w' (kk : Kp w w') => qlight_yes (s := sa) (hua.kp kk) (hub.kp kk) hl1)
  have CN1 := Lib.hid (fun w' (kk : Kp w w') => number_any (s := sa) (hua.kp kk) (hub.kp kk) hl1.1 hl1.2)
  have Sx : RSz 16 (numR sa n1 d1) := rsz_num hua hub hl1.1 hl1.2
  obtain ⟨Xx, hXx⟩ : ∃ X, X = (numR sa n1 d1) := ⟨_, rfl⟩
  rw [← hXx] at CN1 Sx
  clear hXx
  have CL2 := Lib.hid (fun w' (kk : Kp w w') => qlight_yes (s := sb) (hva.kp kk) (hvb.kp kk) hl2)
  have CN2 := Lib.hid (fun w' (kk : Kp w w') => number_any (s := sb) (hva.kp kk) (hvb.kp kk) hl2.1 hl2.2)
  have Sy : RSz 16 (numR sb n2 d2) := rsz_num hva hvb hl2.1 hl2.2
  obtain ⟨Xy, hXy⟩ : ∃ X, X = (numR sb n2 d2) := ⟨_, rfl⟩
  rw [← hXy] at CN2 Sy h0
  clear hXy
  have CL3 := Lib.hid (fun w' (kk : Kp w w') => qlight_yes (s := sc) (hwa.kp kk) (hwb.kp kk) hl3)
  have CN3 := Lib.hid (fun w' (kk : Kp w w') => number_any (s := sc) (hwa.kp kk) (hwb.kp kk) hl3.1 hl3.2)
  have Sz : RSz 16 (numR sc n3 d3) := rsz_num hwa hwb hl3.1 hl3.2
  obtain ⟨Xz, hXz⟩ : ∃ X, X = (numR sc n3 d3) := ⟨_, rfl⟩
  rw [← hXz] at CN3 Sz
  clear hXz
  obtain ⟨xo1, xl1, xc1, rfl⟩ := rd_slice hua
  obtain ⟨xo2, xl2, xc2, rfl⟩ := rd_slice hub
  obtain ⟨yo1, yl1, yc1, rfl⟩ := rd_slice hva
  obtain ⟨yo2, yl2, yc2, rfl⟩ := rd_slice hvb
  obtain ⟨zo1, zl1, zc1, rfl⟩ := rd_slice hwa
  obtain ⟨zo2, zl2, zc2, rfl⟩ := rd_slice hwb
  have HT := Lib.hid (Rw3.new w (.bool sa) (.slice xo1 xl1 xc1) (.slice xo2 xl2 xc2) (.bool sb) (.slice yo1 yl1 yc1) (.slice yo2 yl2 yc2) (.bool sc) (.slice zo1 zl1 zc1) (.slice zo2 zl2 zc2))
  have CQ1 := Lib.hid (fun w' a b (ha : RatV w' a (Xx)) (hb : RatV w' b (Xy)) => (show Calls Tryz.prog 25 #[a, b] w' fun e w2 => ∃ v, e = .returned (.tuple #[v, .int .i64 3]) ∧ RatV w2 v 0 ∧ Kp w' w2 from (quo_zero ha hb h0).mono fun e w2 ⟨he, k⟩ => ⟨_, he, RatV.zero w2, k⟩))
  have C1 := Lib.hid (fun w' a (ha : RatV w' a (Xy)) => sign_any ha)
  rw [sgnR_eq.2 h0] at C1
  have C2 := Lib.hid (fun w' a b (ha : RatV w' a (Xx)) (hb : RatV w' b (Xy)) (t : Tz w') => qadd_any ha hb Sx Sy (by omega) (by omega) t)
  have C3 := Lib.hid (fun w' a b (ha : RatV w' a ((Xx + Xy))) (hb : RatV w' b (Xz)) (t : Tz w') => qadd_any ha hb (Sx.add Sy) Sz (by omega) (by omega) t)
  have C4 := Lib.hid (fun w' a b (ha : RatV w' a (Xy)) (hb : RatV w' b (Xz)) (t : Tz w') => qadd_any ha hb Sy Sz (by omega) (by omega) t)
  have C5 := Lib.hid (fun w' a b (ha : RatV w' a (Xx)) (hb : RatV w' b ((Xy + Xz))) (t : Tz w') => qadd_any ha hb Sx (Sy.add Sz) (by omega) (by omega) t)
  have C6 := Lib.hid (fun w' a b (ha : RatV w' a (((Xx + Xy) + Xz))) (hb : RatV w' b ((Xx + (Xy + Xz)))) => by have h := rsame_any ha hb; rw [decide_eq_true (show (((Xx + Xy) + Xz)) = ((Xx + (Xy + Xz))) from Rat.add_assoc _ _ _)] at h; exact h)
  have C7 := Lib.hid (fun w' a b (ha : RatV w' a (Xx)) (hb : RatV w' b (Xy)) (t : Tz w') => qmul_any ha hb Sx Sy (by omega) (by omega) t)
  have C8 := Lib.hid (fun w' a b (ha : RatV w' a ((Xx * Xy))) (hb : RatV w' b (Xz)) (t : Tz w') => qmul_any ha hb (Sx.mul Sy) Sz (by omega) (by omega) t)
  have C9 := Lib.hid (fun w' a b (ha : RatV w' a (Xy)) (hb : RatV w' b (Xz)) (t : Tz w') => qmul_any ha hb Sy Sz (by omega) (by omega) t)
  have C10 := Lib.hid (fun w' a b (ha : RatV w' a (Xx)) (hb : RatV w' b ((Xy * Xz))) (t : Tz w') => qmul_any ha hb Sx (Sy.mul Sz) (by omega) (by omega) t)
  have C11 := Lib.hid (fun w' a b (ha : RatV w' a (((Xx * Xy) * Xz))) (hb : RatV w' b ((Xx * (Xy * Xz)))) => by have h := rsame_any ha hb; rw [decide_eq_true (show (((Xx * Xy) * Xz)) = ((Xx * (Xy * Xz))) from Rat.mul_assoc _ _ _)] at h; exact h)
  have C12 := Lib.hid (fun w' a b (ha : RatV w' a (Xy)) (hb : RatV w' b (Xz)) (t : Tz w') => qadd_any ha hb Sy Sz (by omega) (by omega) t)
  have C13 := Lib.hid (fun w' a b (ha : RatV w' a (Xx)) (hb : RatV w' b ((Xy + Xz))) (t : Tz w') => qmul_any ha hb Sx (Sy.add Sz) (by omega) (by omega) t)
  have C14 := Lib.hid (fun w' a b (ha : RatV w' a (Xx)) (hb : RatV w' b (Xy)) (t : Tz w') => qmul_any ha hb Sx Sy (by omega) (by omega) t)
  have C15 := Lib.hid (fun w' a b (ha : RatV w' a (Xx)) (hb : RatV w' b (Xz)) (t : Tz w') => qmul_any ha hb Sx Sz (by omega) (by omega) t)
  have C16 := Lib.hid (fun w' a b (ha : RatV w' a ((Xx * Xy))) (hb : RatV w' b ((Xx * Xz))) (t : Tz w') => qadd_any ha hb (Sx.mul Sy) (Sx.mul Sz) (by omega) (by omega) t)
  have C17 := Lib.hid (fun w' a b (ha : RatV w' a ((Xx * (Xy + Xz)))) (hb : RatV w' b (((Xx * Xy) + (Xx * Xz)))) => by have h := rsame_any ha hb; rw [decide_eq_true (show ((Xx * (Xy + Xz))) = (((Xx * Xy) + (Xx * Xz))) from Rat.mul_add _ _ _)] at h; exact h)
  have C18 := Lib.hid (fun w' a b (ha : RatV w' a (Xx)) (hb : RatV w' b (Xy)) (t : Tz w') => qadd_any ha hb Sx Sy (by omega) (by omega) t)
  have C19 := Lib.hid (fun w' a b (ha : RatV w' a ((Xx + Xy))) (hb : RatV w' b (Xy)) (t : Tz w') => qsub_any ha hb (Sx.add Sy) Sy (by omega) (by omega) t)
  have C20 := Lib.hid (fun w' a b (ha : RatV w' a (((Xx + Xy) - Xy))) (hb : RatV w' b (Xx)) => by have h := rsame_any ha hb; rw [decide_eq_true (show (((Xx + Xy) - Xy)) = (Xx) from by grind)] at h; exact h)
  have C21 := Lib.hid (fun w' a b (ha : RatV w' a (Xx)) (hb : RatV w' b (Xy)) (t : Tz w') => qadd_any ha hb Sx Sy (by omega) (by omega) t)
  have C22 := Lib.hid (fun w' a (ha : RatV w' a ((Xx + Xy))) (t : Tz w') => qvalid_j ha (Sx.add Sy) (by omega) t)
  have C23 := Lib.hid (fun w' a b (ha : RatV w' a (Xx)) (hb : RatV w' b (Xy)) (t : Tz w') => qmul_any ha hb Sx Sy (by omega) (by omega) t)
  have C24 := Lib.hid (fun w' a (ha : RatV w' a ((Xx * Xy))) (t : Tz w') => qvalid_j ha (Sx.mul Sy) (by omega) t)
  clear h0
  clear hua hub hl1 Sx hva hvb hl2 Sy hwa hwb hl3 Sz htab hZ
  go_enter Tryz.func9, Tryz.ntmps9
  have Z_e := Lib.hid (HZ.out.kp HT.out.k)
  obtain ⟨xz0, xz1, xz2⟩ := HT.out.ra.cells
  obtain ⟨yz0, yz1, yz2⟩ := HT.out.rb.cells
  obtain ⟨zz0, zz1, zz2⟩ := HT.out.rc.cells
  go_wp2_with (go_at_call 13; (with_reducible refine (CL1.out _ HT.out.k).mono ?_); rintro e w2 ⟨rfl, k2⟩; refine Hid.out ?_)
  refine Lib.hid ?_
  have T_2 := Lib.hid (HT.out.kp k2)
  have Z_2 := Lib.hid (Z_e.out.kp k2)
  clear HT Z_e
  clear k2
  obtain ⟨xz0, xz1, xz2⟩ := T_2.out.ra.cells
  obtain ⟨yz0, yz1, yz2⟩ := T_2.out.rb.cells
  obtain ⟨zz0, zz1, zz2⟩ := T_2.out.rc.cells
  go_wp2_with (go_at_call 13; (with_reducible refine (CL2.out _ T_2.out.k).mono ?_); rintro e w3 ⟨rfl, k3⟩; refine Hid.out ?_)
  refine Lib.hid ?_
  have T_3 := Lib.hid (T_2.out.kp k3)
  have Z_3 := Lib.hid (Z_2.out.kp k3)
  clear T_2 Z_2
  clear k3
  obtain ⟨xz0, xz1, xz2⟩ := T_3.out.ra.cells
  obtain ⟨yz0, yz1, yz2⟩ := T_3.out.rb.cells
  obtain ⟨zz0, zz1, zz2⟩ := T_3.out.rc.cells
  go_wp2_with (go_at_call 13; (with_reducible refine (CL3.out _ T_3.out.k).mono ?_); rintro e w4 ⟨rfl, k4⟩; refine Hid.out ?_)
  refine Lib.hid ?_
  have T_4 := Lib.hid (T_3.out.kp k4)
  have Z_4 := Lib.hid (Z_3.out.kp k4)
  clear T_3 Z_3
  clear k4
  obtain ⟨xz0, xz1, xz2⟩ := T_4.out.ra.cells
  obtain ⟨yz0, yz1, yz2⟩ := T_4.out.rb.cells
  obtain ⟨zz0, zz1, zz2⟩ := T_4.out.rc.cells
  go_upto_region 3 with fail
  have T_5 := Lib.hid (T_4.out.kp (Below.refl _ _).drew)
  have Z_5 := Lib.hid (Z_4.out.kp (Below.refl _ _).drew)
  clear T_4 Z_4
  obtain ⟨S, hS⟩ : ∃ S : Plan, S = ⟨[(0, .agg #[.bool sa, .slice xo1 xl1 xc1, .slice xo2 xl2 xc2]), (2, .agg #[.bool sb, .slice yo1 yl1 yc1, .slice yo2 yl2 yc2]), (4, .agg #[.bool sc, .slice zo1 zl1 zc1, .slice zo2 zl2 zc2])], [(1, Xx), (3, Xy), (5, Xz)], [], [⟨6, 9, 1⟩, ⟨7, 10, 3⟩, ⟨8, 11, 5⟩]⟩ := ⟨_, rfl⟩
  have HS := Lib.hid hS
  clear hS
  refine' wp_region_inv (F := _) (by kernel_rfl) (by kernel_rfl) (by kernel_rfl) (PJ S _) (PJ.begin _ _ _) ?hF ?hsteps ?hend
  case hF => intro f; (try simp only [List.append]); simp only [putAll, Act.put, List.setIfInBounds_toArray, List.set_cons_zero, List.set_cons_succ, Nat.zero_add, Nat.reduceAdd]; exact rfl
  case hsteps =>
    refine StepsJ.cons ?_ ?_
    · intro b f w1 hb hw hJ K hK
      have HB := Lib.hid hb
      have HJ := Lib.hid hJ
      have HW := Lib.hid hw
      clear hJ hw hb
      try dsimp only
      rw [if_pos (by rfl)]
      obtain ⟨xz0, xz1, xz2⟩ := (T_5.out.kp HJ.out.k).ra.cells
      go_simp
      exact hK.out _ (.agg #[.bool sa, .slice xo1 xl1 xc1, .slice xo2 xl2 xc2]) _ (by (try dsimp only) <;> simp only [Act.put, List.setIfInBounds_toArray, List.set_cons_zero, List.set_cons_succ]) (HJ.out.pureStep 0 _ HB.out (by rw [HS.out]; rfl) (by rw [HS.out]; rfl) (by rw [HS.out]; rfl) (by rw [HS.out]; rfl))
    refine StepsJ.cons ?_ ?_
    · intro b f w1 hb hw hJ K hK
      have HB := Lib.hid hb
      have HJ := Lib.hid hJ
      have HW := Lib.hid hw
      clear hJ hw hb
      try dsimp only
      have e0 : f 0 = .agg #[.bool sa, .slice xo1 xl1 xc1, .slice xo2 xl2 xc2] := HJ.out.pure 0 _ (by rw [HS.out]; rfl) (HW.out 0 (by decide))
      simp only [e0]
      rw [if_pos (by rfl)]
      go_simp
      go_at_call 24
      (with_reducible refine (CN1.out _ (T_5.out.kp HJ.out.k).k).mono ?_)
      rintro e w2 ⟨vr, rfl, hr, kk⟩
      exact hK.out _ vr _ (by (try dsimp only) <;> simp only [Act.put, List.setIfInBounds_toArray, List.set_cons_zero, List.set_cons_succ, e0]) (HJ.out.callStep 1 vr _ HB.out kk hr (by rw [HS.out]; rfl) (by rw [HS.out]; rfl) (by rw [HS.out]; rfl) (by rw [HS.out]; rfl))
    refine StepsJ.cons ?_ ?_
    · intro b f w1 hb hw hJ K hK
      have HB := Lib.hid hb
      have HJ := Lib.hid hJ
      have HW := Lib.hid hw
      clear hJ hw hb
      try dsimp only
      rw [if_pos (by rfl)]
      obtain ⟨yz0, yz1, yz2⟩ := (T_5.out.kp HJ.out.k).rb.cells
      go_simp
      exact hK.out _ (.agg #[.bool sb, .slice yo1 yl1 yc1, .slice yo2 yl2 yc2]) _ (by (try dsimp only) <;> simp only [Act.put, List.setIfInBounds_toArray, List.set_cons_zero, List.set_cons_succ]) (HJ.out.pureStep 2 _ HB.out (by rw [HS.out]; rfl) (by rw [HS.out]; rfl) (by rw [HS.out]; rfl) (by rw [HS.out]; rfl))
    refine StepsJ.cons ?_ ?_
    · intro b f w1 hb hw hJ K hK
      have HB := Lib.hid hb
      have HJ := Lib.hid hJ
      have HW := Lib.hid hw
      clear hJ hw hb
      try dsimp only
      have e2 : f 2 = .agg #[.bool sb, .slice yo1 yl1 yc1, .slice yo2 yl2 yc2] := HJ.out.pure 2 _ (by rw [HS.out]; rfl) (HW.out 2 (by decide))
      simp only [e2]
      rw [if_pos (by rfl)]
      go_simp
      go_at_call 24
      (with_reducible refine (CN2.out _ (T_5.out.kp HJ.out.k).k).mono ?_)
      rintro e w2 ⟨vr, rfl, hr, kk⟩
      exact hK.out _ vr _ (by (try dsimp only) <;> simp only [Act.put, List.setIfInBounds_toArray, List.set_cons_zero, List.set_cons_succ, e2]) (HJ.out.callStep 3 vr _ HB.out kk hr (by rw [HS.out]; rfl) (by rw [HS.out]; rfl) (by rw [HS.out]; rfl) (by rw [HS.out]; rfl))
    refine StepsJ.cons ?_ ?_
    · intro b f w1 hb hw hJ K hK
      have HB := Lib.hid hb
      have HJ := Lib.hid hJ
      have HW := Lib.hid hw
      clear hJ hw hb
      try dsimp only
      rw [if_pos (by rfl)]
      obtain ⟨zz0, zz1, zz2⟩ := (T_5.out.kp HJ.out.k).rc.cells
      go_simp
      exact hK.out _ (.agg #[.bool sc, .slice zo1 zl1 zc1, .slice zo2 zl2 zc2]) _ (by (try dsimp only) <;> simp only [Act.put, List.setIfInBounds_toArray, List.set_cons_zero, List.set_cons_succ]) (HJ.out.pureStep 4 _ HB.out (by rw [HS.out]; rfl) (by rw [HS.out]; rfl) (by rw [HS.out]; rfl) (by rw [HS.out]; rfl))
    refine StepsJ.cons ?_ ?_
    · intro b f w1 hb hw hJ K hK
      have HB := Lib.hid hb
      have HJ := Lib.hid hJ
      have HW := Lib.hid hw
      clear hJ hw hb
      try dsimp only
      have e4 : f 4 = .agg #[.bool sc, .slice zo1 zl1 zc1, .slice zo2 zl2 zc2] := HJ.out.pure 4 _ (by rw [HS.out]; rfl) (HW.out 4 (by decide))
      simp only [e4]
      rw [if_pos (by rfl)]
      go_simp
      go_at_call 24
      (with_reducible refine (CN3.out _ (T_5.out.kp HJ.out.k).k).mono ?_)
      rintro e w2 ⟨vr, rfl, hr, kk⟩
      exact hK.out _ vr _ (by (try dsimp only) <;> simp only [Act.put, List.setIfInBounds_toArray, List.set_cons_zero, List.set_cons_succ, e4]) (HJ.out.callStep 5 vr _ HB.out kk hr (by rw [HS.out]; rfl) (by rw [HS.out]; rfl) (by rw [HS.out]; rfl) (by rw [HS.out]; rfl))
    refine StepsJ.cons ?_ ?_
    · intro b f w1 hb hw hJ K hK
      have HB := Lib.hid hb
      have HJ := Lib.hid hJ
      have HW := Lib.hid hw
      clear hJ hw hb
      try dsimp only
      rw [if_pos (by rfl)]
      go_simp
      exact hK.out _ _ _ (by (try dsimp only) <;> simp only [Act.put, List.setIfInBounds_toArray, List.set_cons_zero, List.set_cons_succ]) (HJ.out.allocStep 6 HB.out (by rw [HS.out]; rfl) (by rw [HS.out]; rfl) (by rw [HS.out]; rfl) (by rw [HS.out]; rfl))
    refine StepsJ.cons ?_ ?_
    · intro b f w1 hb hw hJ K hK
      have HB := Lib.hid hb
      have HJ := Lib.hid hJ
      have HW := Lib.hid hw
      clear hJ hw hb
      try dsimp only
      rw [if_pos (by rfl)]
      go_simp
      exact hK.out _ _ _ (by (try dsimp only) <;> simp only [Act.put, List.setIfInBounds_toArray, List.set_cons_zero, List.set_cons_succ]) (HJ.out.allocStep 7 HB.out (by rw [HS.out]; rfl) (by rw [HS.out]; rfl) (by rw [HS.out]; rfl) (by rw [HS.out]; rfl))
    refine StepsJ.cons ?_ ?_
    · intro b f w1 hb hw hJ K hK
      have HB := Lib.hid hb
      have HJ := Lib.hid hJ
      have HW := Lib.hid hw
      clear hJ hw hb
      try dsimp only
      rw [if_pos (by rfl)]
      go_simp
      exact hK.out _ _ _ (by (try dsimp only) <;> simp only [Act.put, List.setIfInBounds_toArray, List.set_cons_zero, List.set_cons_succ]) (HJ.out.allocStep 8 HB.out (by rw [HS.out]; rfl) (by rw [HS.out]; rfl) (by rw [HS.out]; rfl) (by rw [HS.out]; rfl))
    refine StepsJ.cons ?_ ?_
    · intro b f w1 hb hw hJ K hK
      have HB := Lib.hid hb
      have HJ := Lib.hid hJ
      have HW := Lib.hid hw
      clear hJ hw hb
      try dsimp only
      rw [if_pos (by rfl)]
      obtain ⟨g, s, o1, l1, c1, o2, l2, c2, h1, h2, hr, hn⟩ := HJ.out.storeStep ⟨6, 9, 1⟩ (by rw [HS.out]; simp) (Xx) (by rw [HS.out]; rfl) 9 rfl HB.out (HW.out 6 (by decide)) (HW.out 1 (by decide)) (by rw [HS.out]; rfl) (by rw [HS.out]; rfl) (by rw [HS.out]; rfl) (by rw [HS.out]; simp)
      have HN := Lib.hid hn
      obtain ⟨d0, d1, d2, f0, f1, f2⟩ := hr.cells
      clear hn hr
      simp only at h1 h2
      simp only [h1, h2]
      go_simp
      exact hK.out _ undef _ (by (try dsimp only) <;> simp only [Act.put, h1, h2]) (HN.out undef)
    refine StepsJ.cons ?_ ?_
    · intro b f w1 hb hw hJ K hK
      have HB := Lib.hid hb
      have HJ := Lib.hid hJ
      have HW := Lib.hid hw
      clear hJ hw hb
      try dsimp only
      rw [if_pos (by rfl)]
      obtain ⟨g, s, o1, l1, c1, o2, l2, c2, h1, h2, hr, hn⟩ := HJ.out.storeStep ⟨7, 10, 3⟩ (by rw [HS.out]; simp) (Xy) (by rw [HS.out]; rfl) 10 rfl HB.out (HW.out 7 (by decide)) (HW.out 3 (by decide)) (by rw [HS.out]; rfl) (by rw [HS.out]; rfl) (by rw [HS.out]; rfl) (by rw [HS.out]; simp)
      have HN := Lib.hid hn
      obtain ⟨d0, d1, d2, f0, f1, f2⟩ := hr.cells
      clear hn hr
      simp only at h1 h2
      simp only [h1, h2]
      go_simp
      exact hK.out _ undef _ (by (try dsimp only) <;> simp only [Act.put, h1, h2]) (HN.out undef)
    refine StepsJ.cons ?_ ?_
    · intro b f w1 hb hw hJ K hK
      have HB := Lib.hid hb
      have HJ := Lib.hid hJ
      have HW := Lib.hid hw
      clear hJ hw hb
      try dsimp only
      rw [if_pos (by rfl)]
      obtain ⟨g, s, o1, l1, c1, o2, l2, c2, h1, h2, hr, hn⟩ := HJ.out.storeStep ⟨8, 11, 5⟩ (by rw [HS.out]; simp) (Xz) (by rw [HS.out]; rfl) 11 rfl HB.out (HW.out 8 (by decide)) (HW.out 5 (by decide)) (by rw [HS.out]; rfl) (by rw [HS.out]; rfl) (by rw [HS.out]; rfl) (by rw [HS.out]; simp)
      have HN := Lib.hid hn
      obtain ⟨d0, d1, d2, f0, f1, f2⟩ := hr.cells
      clear hn hr
      simp only at h1 h2
      simp only [h1, h2]
      go_simp
      exact hK.out _ undef _ (by (try dsimp only) <;> simp only [Act.put, h1, h2]) (HN.out undef)
    exact StepsJ.nil
  case hend =>
    intro b f w6 hb hJ
    try dsimp only
    obtain ⟨gx, xs, xq1, xr1, xs1, xq2, xr2, xs2, ex, hrx, hx⟩ := hJ.all ⟨6, 9, 1⟩ (by rw [HS.out]; simp) (Xx) (by rw [HS.out]; rfl) (hb 6 (by decide)) (hb 1 (by decide)) (hb 9 (by decide))
    obtain ⟨gy, ys, yq1, yr1, ys1, yq2, yr2, ys2, ey, hry, hy⟩ := hJ.all ⟨7, 10, 3⟩ (by rw [HS.out]; simp) (Xy) (by rw [HS.out]; rfl) (hb 7 (by decide)) (hb 3 (by decide)) (hb 10 (by decide))
    obtain ⟨gz, zs, zq1, zr1, zs1, zq2, zr2, zs2, ez, hrz, hz⟩ := hJ.all ⟨8, 11, 5⟩ (by rw [HS.out]; simp) (Xz) (by rw [HS.out]; rfl) (hb 8 (by decide)) (hb 5 (by decide)) (hb 11 (by decide))
    simp only at ex ey ez
    have kk := hJ.k
    clear hJ hb
    have T_6 := Lib.hid (T_5.out.kp kk)
    have Z_6 := Lib.hid (Z_5.out.kp kk)
    clear kk T_5 Z_5
    have Vx_6 := Lib.hid hx
    have Bx_6 := Lib.hid hrx
    clear hx hrx
    have Vy_6 := Lib.hid hy
    have By_6 := Lib.hid hry
    clear hy hry
    have Vz_6 := Lib.hid hz
    have Bz_6 := Lib.hid hrz
    clear hz hrz
    simp only [ex, ey, ez]
    clear ex ey ez
    generalize f 0 = ya0
    generalize f 1 = ya1
    generalize f 2 = ya2
    generalize f 3 = ya3
    generalize f 4 = ya4
    generalize f 5 = ya5
    clear HS S f b
    obtain ⟨xz0, xz1, xz2⟩ := T_6.out.ra.cells
    obtain ⟨yz0, yz1, yz2⟩ := T_6.out.rb.cells
    obtain ⟨zz0, zz1, zz2⟩ := T_6.out.rc.cells
    obtain ⟨xg0, xg1, xg2, _⟩ := Bx_6.out.cells
    obtain ⟨yg0, yg1, yg2, _⟩ := By_6.out.cells
    obtain ⟨zg0, zg1, zg2, _⟩ := Bz_6.out.cells
    go_wp2_with (go_at_call 25; (with_reducible refine (CQ1.out _ _ _ Vx_6.out Vy_6.out).mono ?_); rintro e w7 ⟨vq, rfl, hq, k7⟩; refine Hid.out ?_)
    refine Lib.hid ?_
    have T_7 := Lib.hid (T_6.out.kp k7)
    have Z_7 := Lib.hid (Z_6.out.kp k7)
    have Vx_7 := Lib.hid (Vx_6.out.kp k7)
    have Bx_7 := Lib.hid (Bx_6.out.kp k7)
    have Vy_7 := Lib.hid (Vy_6.out.kp k7)
    have By_7 := Lib.hid (By_6.out.kp k7)
    have Vz_7 := Lib.hid (Vz_6.out.kp k7)
    have Bz_7 := Lib.hid (Bz_6.out.kp k7)
    clear T_6 Z_6 Vx_6 Bx_6 Vy_6 By_6 Vz_6 Bz_6
    clear k7
    obtain ⟨qs, qq1, qr1, qs1, qq2, qr2, qs2, rfl⟩ := hq.lit
    have Vq_l := Lib.hid hq
    have Bq_l := Lib.hid (Res.new w7 (.bool qs) (.slice qq1 qr1 qs1) (.slice qq2 qr2 qs2))
    clear hq
    have T_8 := Lib.hid (T_7.out.kp (Kp.alloc _ (Obj.cells #[Value.bool qs, Value.slice qq1 qr1 qs1, Value.slice qq2 qr2 qs2] 27)))
    have Z_8 := Lib.hid (Z_7.out.kp (Kp.alloc _ (Obj.cells #[Value.bool qs, Value.slice qq1 qr1 qs1, Value.slice qq2 qr2 qs2] 27)))
    have Vx_8 := Lib.hid (Vx_7.out.kp (Kp.alloc _ (Obj.cells #[Value.bool qs, Value.slice qq1 qr1 qs1, Value.slice qq2 qr2 qs2] 27)))
    have Bx_8 := Lib.hid (Bx_7.out.kp (Kp.alloc _ (Obj.cells #[Value.bool qs, Value.slice qq1 qr1 qs1, Value.slice qq2 qr2 qs2] 27)))
    have Vy_8 := Lib.hid (Vy_7.out.kp (Kp.alloc _ (Obj.cells #[Value.bool qs, Value.slice qq1 qr1 qs1, Value.slice qq2 qr2 qs2] 27)))
    have By_8 := Lib.hid (By_7.out.kp (Kp.alloc _ (Obj.cells #[Value.bool qs, Value.slice qq1 qr1 qs1, Value.slice qq2 qr2 qs2] 27)))
    have Vz_8 := Lib.hid (Vz_7.out.kp (Kp.alloc _ (Obj.cells #[Value.bool qs, Value.slice qq1 qr1 qs1, Value.slice qq2 qr2 qs2] 27)))
    have Bz_8 := Lib.hid (Bz_7.out.kp (Kp.alloc _ (Obj.cells #[Value.bool qs, Value.slice qq1 qr1 qs1, Value.slice qq2 qr2 qs2] 27)))
    have Vq_8 := Lib.hid (Vq_l.out.kp (Kp.alloc _ (Obj.cells #[Value.bool qs, Value.slice qq1 qr1 qs1, Value.slice qq2 qr2 qs2] 27)))
    clear T_7 Z_7 Vx_7 Bx_7 Vy_7 By_7 Vz_7 Bz_7 Vq_l
    obtain ⟨xz0, xz1, xz2⟩ := T_8.out.ra.cells
    obtain ⟨yz0, yz1, yz2⟩ := T_8.out.rb.cells
    obtain ⟨zz0, zz1, zz2⟩ := T_8.out.rc.cells
    obtain ⟨xg0, xg1, xg2, _⟩ := Bx_8.out.cells
    obtain ⟨yg0, yg1, yg2, _⟩ := By_8.out.cells
    obtain ⟨zg0, zg1, zg2, _⟩ := Bz_8.out.cells
    obtain ⟨qg0, qg1, qg2, _⟩ := Bq_l.out.cells
    go_upto_region 5 with fail
    have T_9 := Lib.hid (T_8.out.kp (Below.refl _ _).drew)
    have Z_9 := Lib.hid (Z_8.out.kp (Below.refl _ _).drew)
    have Vx_9 := Lib.hid (Vx_8.out.kp (Below.refl _ _).drew)
    have Bx_9 := Lib.hid (Bx_8.out.kp (Below.refl _ _).drew)
    have Vy_9 := Lib.hid (Vy_8.out.kp (Below.refl _ _).drew)
    have By_9 := Lib.hid (By_8.out.kp (Below.refl _ _).drew)
    have Vz_9 := Lib.hid (Vz_8.out.kp (Below.refl _ _).drew)
    have Bz_9 := Lib.hid (Bz_8.out.kp (Below.refl _ _).drew)
    have Vq_9 := Lib.hid (Vq_8.out.kp (Below.refl _ _).drew)
    have Bq_9 := Lib.hid (Bq_l.out.kp (Below.refl _ _).drew)
    clear T_8 Z_8 Vx_8 Bx_8 Vy_8 By_8 Vz_8 Bz_8 Vq_8 Bq_l
    obtain ⟨S, hS⟩ : ∃ S : Plan, S = ⟨[(0, .int .i64 3), (1, .bool false), (2, .agg #[.bool ys, .slice yq1 yr1 ys1, .slice yq2 yr2 ys2]), (3, .int .i64 0), (4, .bool false), (5, .bool false), (6, .bool false), (7, .int .i64 3), (8, .bool false), (9, .bool false), (16, .bool false), (17, .bool false)], [], [], []⟩ := ⟨_, rfl⟩
    have HS := Lib.hid hS
    clear hS
    refine' wp_region_inv (F := _) (by kernel_rfl) (by kernel_rfl) (by kernel_rfl) (PJ S _) (PJ.begin _ _ _) ?hF ?hsteps ?hend
    case hF => intro f; (try simp only [List.append]); simp only [putAll, Act.put, List.setIfInBounds_toArray, List.set_cons_zero, List.set_cons_succ, Nat.zero_add, Nat.reduceAdd]; exact rfl
    case hsteps =>
      refine StepsJ.cons ?_ ?_
      · intro b f w1 hb hw hJ K hK
        have HB := Lib.hid hb
        have HJ := Lib.hid hJ
        have HW := Lib.hid hw
        clear hJ hw hb
        try dsimp only
        rw [if_pos (by rfl)]
        go_simp
        exact hK.out _ (.int .i64 3) _ (by (try dsimp only) <;> simp only [Act.put, List.setIfInBounds_toArray, List.set_cons_zero, List.set_cons_succ]) (HJ.out.pureStep 0 _ HB.out (by rw [HS.out]; rfl) (by rw [HS.out]; rfl) (by rw [HS.out]; rfl) (by rw [HS.out]; rfl))
      refine StepsJ.cons ?_ ?_
      · intro b f w1 hb hw hJ K hK
        have HB := Lib.hid hb
        have HJ := Lib.hid hJ
        have HW := Lib.hid hw
        clear hJ hw hb
        try dsimp only
        have e0 : f 0 = .int .i64 3 := HJ.out.pure 0 _ (by rw [HS.out]; rfl) (HW.out 0 (by decide))
        simp only [e0]
        rw [if_pos (by rfl)]
        go_simp
        exact hK.out _ (.bool false) _ (by (try dsimp only) <;> simp only [Act.put, List.setIfInBounds_toArray, List.set_cons_zero, List.set_cons_succ, e0]) (HJ.out.pureStep 1 _ HB.out (by rw [HS.out]; rfl) (by rw [HS.out]; rfl) (by rw [HS.out]; rfl) (by rw [HS.out]; rfl))
      refine StepsJ.cons ?_ ?_
      · intro b f w1 hb hw hJ K hK
        have HB := Lib.hid hb
        have HJ := Lib.hid hJ
        have HW := Lib.hid hw
        clear hJ hw hb
        try dsimp only
        rw [if_pos (by rfl)]
        obtain ⟨yg0, yg1, yg2, _⟩ := (By_9.out.kp HJ.out.k).cells
        go_simp
        exact hK.out _ (.agg #[.bool ys, .slice yq1 yr1 ys1, .slice yq2 yr2 ys2]) _ (by (try dsimp only) <;> simp only [Act.put, List.setIfInBounds_toArray, List.set_cons_zero, List.set_cons_succ]) (HJ.out.pureStep 2 _ HB.out (by rw [HS.out]; rfl) (by rw [HS.out]; rfl) (by rw [HS.out]; rfl) (by rw [HS.out]; rfl))
      refine StepsJ.cons ?_ ?_
      · intro b f w1 hb hw hJ K hK
        have HB := Lib.hid hb
        have HJ := Lib.hid hJ
        have HW := Lib.hid hw
        clear hJ hw hb
        try dsimp only
        have e2 : f 2 = .agg #[.bool ys, .slice yq1 yr1 ys1, .slice yq2 yr2 ys2] := HJ.out.pure 2 _ (by rw [HS.out]; rfl) (HW.out 2 (by decide))
        simp only [e2]
        rw [if_pos (by rfl)]
        go_simp
        go_at_call 36
        (with_reducible refine (C1.out _ _ (Vy_9.out.kp HJ.out.k)).mono ?_)
        rintro e w2 ⟨rfl, kk⟩
        exact hK.out _ (.int .i64 0) _ (by (try dsimp only) <;> simp only [Act.put, List.setIfInBounds_toArray, List.set_cons_zero, List.set_cons_succ, e2]) ((HJ.out.later kk).pureStep 3 _ HB.out (by rw [HS.out]; rfl) (by rw [HS.out]; rfl) (by rw [HS.out]; rfl) (by rw [HS.out]; rfl))
      refine StepsJ.cons ?_ ?_
      · intro b f w1 hb hw hJ K hK
        have HB := Lib.hid hb
        have HJ := Lib.hid hJ
        have HW := Lib.hid hw
        clear hJ hw hb
        try dsimp only
        have e3 : f 3 = .int .i64 0 := HJ.out.pure 3 _ (by rw [HS.out]; rfl) (HW.out 3 (by decide))
        simp only [e3]
        rw [if_pos (by rfl)]
        go_simp
        exact hK.out _ (.bool false) _ (by (try dsimp only) <;> simp only [Act.put, List.setIfInBounds_toArray, List.set_cons_zero, List.set_cons_succ, e3]) (HJ.out.pureStep 4 _ HB.out (by rw [HS.out]; rfl) (by rw [HS.out]; rfl) (by rw [HS.out]; rfl) (by rw [HS.out]; rfl))
      refine StepsJ.cons ?_ ?_
      · intro b f w1 hb hw hJ K hK
        have HB := Lib.hid hb
        have HJ := Lib.hid hJ
        have HW := Lib.hid hw
        clear hJ hw hb
        try dsimp only
        have e1 : f 1 = .bool false := HJ.out.pure 1 _ (by rw [HS.out]; rfl) (HW.out 1 (by decide))
        have e4 : f 4 = .bool false := HJ.out.pure 4 _ (by rw [HS.out]; rfl) (HW.out 4 (by decide))
        simp only [e1, e4]
        rw [if_pos (by rfl)]
        go_simp
        exact hK.out _ (.bool false) _ (by (try dsimp only) <;> simp only [Act.put, List.setIfInBounds_toArray, List.set_cons_zero, List.set_cons_succ, e1, e4]) (HJ.out.pureStep 5 _ HB.out (by rw [HS.out]; rfl) (by rw [HS.out]; rfl) (by rw [HS.out]; rfl) (by rw [HS.out]; rfl))
      refine StepsJ.cons ?_ ?_
      · intro b f w1 hb hw hJ K hK
        have HB := Lib.hid hb
        have HJ := Lib.hid hJ
        have HW := Lib.hid hw
        clear hJ hw hb
        try dsimp only
        have e5 : f 5 = .bool false := HJ.out.pure 5 _ (by rw [HS.out]; rfl) (HW.out 5 (by decide))
        simp only [e5]
        rw [if_pos (by rfl)]
        go_simp
        exact hK.out _ (.bool false) _ (by (try dsimp only) <;> simp only [Act.put, List.setIfInBounds_toArray, List.set_cons_zero, List.set_cons_succ, e5]) (HJ.out.pureStep 6 _ HB.out (by rw [HS.out]; rfl) (by rw [HS.out]; rfl) (by rw [HS.out]; rfl) (by rw [HS.out]; rfl))
      refine StepsJ.cons ?_ ?_
      · intro b f w1 hb hw hJ K hK
        have HB := Lib.hid hb
        have HJ := Lib.hid hJ
        have HW := Lib.hid hw
        clear hJ hw hb
        try dsimp only
        have e6 : f 6 = .bool false := HJ.out.pure 6 _ (by rw [HS.out]; rfl) (HW.out 6 (by decide))
        simp only [e6]
        rw [if_pos (by rfl)]
        go_simp
        exact hK.out _ (.int .i64 3) _ (by (try dsimp only) <;> simp only [Act.put, List.setIfInBounds_toArray, List.set_cons_zero, List.set_cons_succ, e6]) (HJ.out.pureStep 7 _ HB.out (by rw [HS.out]; rfl) (by rw [HS.out]; rfl) (by rw [HS.out]; rfl) (by rw [HS.out]; rfl))
      refine StepsJ.cons ?_ ?_
      · intro b f w1 hb hw hJ K hK
        have HB := Lib.hid hb
        have HJ := Lib.hid hJ
        have HW := Lib.hid hw
        clear hJ hw hb
        try dsimp only
        have e6 : f 6 = .bool false := HJ.out.pure 6 _ (by rw [HS.out]; rfl) (HW.out 6 (by decide))
        have e7 : f 7 = .int .i64 3 := HJ.out.pure 7 _ (by rw [HS.out]; rfl) (HW.out 7 (by decide))
        simp only [e6, e7]
        rw [if_pos (by rfl)]
        go_simp
        exact hK.out _ (.bool false) _ (by (try dsimp only) <;> simp only [Act.put, List.setIfInBounds_toArray, List.set_cons_zero, List.set_cons_succ, e6, e7]) (HJ.out.pureStep 8 _ HB.out (by rw [HS.out]; rfl) (by rw [HS.out]; rfl) (by rw [HS.out]; rfl) (by rw [HS.out]; rfl))
      refine StepsJ.cons ?_ ?_
      · intro b f w1 hb hw hJ K hK
        have HB := Lib.hid hb
        have HJ := Lib.hid hJ
        have HW := Lib.hid hw
        clear hJ hw hb
        try dsimp only
        have e6 : f 6 = .bool false := HJ.out.pure 6 _ (by rw [HS.out]; rfl) (HW.out 6 (by decide))
        have e8 : f 8 = .bool false := HJ.out.pure 8 _ (by rw [HS.out]; rfl) (HW.out 8 (by decide))
        simp only [e6, e8]
        rw [if_pos (by rfl)]
        go_simp
        exact hK.out _ (.bool false) _ (by (try dsimp only) <;> simp only [Act.put, List.setIfInBounds_toArray, List.set_cons_zero, List.set_cons_succ, e6, e8]) (HJ.out.pureStep 9 _ HB.out (by rw [HS.out]; rfl) (by rw [HS.out]; rfl) (by rw [HS.out]; rfl) (by rw [HS.out]; rfl))
      refine StepsJ.cons ?_ ?_
      · intro b f w1 hb hw hJ K hK
        have HB := Lib.hid hb
        have HJ := Lib.hid hJ
        have HW := Lib.hid hw
        clear hJ hw hb
        try dsimp only
        have e9 : f 9 = .bool false := HJ.out.pure 9 _ (by rw [HS.out]; rfl) (HW.out 9 (by decide))
        simp only [e9]
        rw [if_neg (by intro h; cases h)]
        exact hK.out _ undef _ (by (try dsimp only) <;> simp only [Act.put, List.setIfInBounds_toArray, List.set_cons_zero, List.set_cons_succ, e9]) (HJ.out.junkStep 10 _ HB.out (by rw [HS.out]; rfl) (by rw [HS.out]; rfl) (by rw [HS.out]; rfl) (by rw [HS.out]; rfl))
      refine StepsJ.cons ?_ ?_
      · intro b f w1 hb hw hJ K hK
        have HB := Lib.hid hb
        have HJ := Lib.hid hJ
        have HW := Lib.hid hw
        clear hJ hw hb
        try dsimp only
        have e9 : f 9 = .bool false := HJ.out.pure 9 _ (by rw [HS.out]; rfl) (HW.out 9 (by decide))
        simp only [e9]
        rw [if_neg (by intro h; cases h)]
        exact hK.out _ undef _ (by (try dsimp only) <;> simp only [Act.put, List.setIfInBounds_toArray, List.set_cons_zero, List.set_cons_succ, e9]) (HJ.out.junkStep 11 _ HB.out (by rw [HS.out]; rfl) (by rw [HS.out]; rfl) (by rw [HS.out]; rfl) (by rw [HS.out]; rfl))
      refine StepsJ.cons ?_ ?_
      · intro b f w1 hb hw hJ K hK
        have HB := Lib.hid hb
        have HJ := Lib.hid hJ
        have HW := Lib.hid hw
        clear hJ hw hb
        try dsimp only
        have e9 : f 9 = .bool false := HJ.out.pure 9 _ (by rw [HS.out]; rfl) (HW.out 9 (by decide))
        simp only [e9]
        rw [if_neg (by intro h; cases h)]
        exact hK.out _ undef _ (by (try dsimp only) <;> simp only [Act.put, List.setIfInBounds_toArray, List.set_cons_zero, List.set_cons_succ, e9]) (HJ.out.junkStep 12 _ HB.out (by rw [HS.out]; rfl) (by rw [HS.out]; rfl) (by rw [HS.out]; rfl) (by rw [HS.out]; rfl))
      refine StepsJ.cons ?_ ?_
      · intro b f w1 hb hw hJ K hK
        have HB := Lib.hid hb
        have HJ := Lib.hid hJ
        have HW := Lib.hid hw
        clear hJ hw hb
        try dsimp only
        have e9 : f 9 = .bool false := HJ.out.pure 9 _ (by rw [HS.out]; rfl) (HW.out 9 (by decide))
        simp only [e9]
        rw [if_neg (by intro h; cases h)]
        exact hK.out _ undef _ (by (try dsimp only) <;> simp only [Act.put, List.setIfInBounds_toArray, List.set_cons_zero, List.set_cons_succ, e9]) (HJ.out.junkStep 13 _ HB.out (by rw [HS.out]; rfl) (by rw [HS.out]; rfl) (by rw [HS.out]; rfl) (by rw [HS.out]; rfl))
      refine StepsJ.cons ?_ ?_
      · intro b f w1 hb hw hJ K hK
        have HB := Lib.hid hb
        have HJ := Lib.hid hJ
        have HW := Lib.hid hw
        clear hJ hw hb
        try dsimp only
        have e9 : f 9 = .bool false := HJ.out.pure 9 _ (by rw [HS.out]; rfl) (HW.out 9 (by decide))
        simp only [e9]
        rw [if_neg (by intro h; cases h)]
        exact hK.out _ undef _ (by (try dsimp only) <;> simp only [Act.put, List.setIfInBounds_toArray, List.set_cons_zero, List.set_cons_succ, e9]) (HJ.out.junkStep 14 _ HB.out (by rw [HS.out]; rfl) (by rw [HS.out]; rfl) (by rw [HS.out]; rfl) (by rw [HS.out]; rfl))
      refine StepsJ.cons ?_ ?_
      · intro b f w1 hb hw hJ K hK
        have HB := Lib.hid hb
        have HJ := Lib.hid hJ
        have HW := Lib.hid hw
        clear hJ hw hb
        try dsimp only
        have e9 : f 9 = .bool false := HJ.out.pure 9 _ (by rw [HS.out]; rfl) (HW.out 9 (by decide))
        simp only [e9]
        rw [if_neg (by intro h; cases h)]
        exact hK.out _ undef _ (by (try dsimp only) <;> simp only [Act.put, List.setIfInBounds_toArray, List.set_cons_zero, List.set_cons_succ, e9]) (HJ.out.junkStep 15 _ HB.out (by rw [HS.out]; rfl) (by rw [HS.out]; rfl) (by rw [HS.out]; rfl) (by rw [HS.out]; rfl))
      refine StepsJ.cons ?_ ?_
      · intro b f w1 hb hw hJ K hK
        have HB := Lib.hid hb
        have HJ := Lib.hid hJ
        have HW := Lib.hid hw
        clear hJ hw hb
        try dsimp only
        have e6 : f 6 = .bool false := HJ.out.pure 6 _ (by rw [HS.out]; rfl) (HW.out 6 (by decide))
        have e9 : f 9 = .bool false := HJ.out.pure 9 _ (by rw [HS.out]; rfl) (HW.out 9 (by decide))
        simp only [e6, e9]
        rw [if_pos (by rfl)]
        go_simp
        exact hK.out _ (.bool false) _ (by (try dsimp only) <;> simp only [Act.put, List.setIfInBounds_toArray, List.set_cons_zero, List.set_cons_succ, e6, e9]) (HJ.out.pureStep 16 _ HB.out (by rw [HS.out]; rfl) (by rw [HS.out]; rfl) (by rw [HS.out]; rfl) (by rw [HS.out]; rfl))
      refine StepsJ.cons ?_ ?_
      · intro b f w1 hb hw hJ K hK
        have HB := Lib.hid hb
        have HJ := Lib.hid hJ
        have HW := Lib.hid hw
        clear hJ hw hb
        try dsimp only
        have e6 : f 6 = .bool false := HJ.out.pure 6 _ (by rw [HS.out]; rfl) (HW.out 6 (by decide))
        have e16 : f 16 = .bool false := HJ.out.pure 16 _ (by rw [HS.out]; rfl) (HW.out 16 (by decide))
        simp only [e6, e16]
        rw [if_pos (by rfl)]
        go_simp
        exact hK.out _ (.bool false) _ (by (try dsimp only) <;> simp only [Act.put, List.setIfInBounds_toArray, List.set_cons_zero, List.set_cons_succ, e6, e16]) (HJ.out.pureStep 17 _ HB.out (by rw [HS.out]; rfl) (by rw [HS.out]; rfl) (by rw [HS.out]; rfl) (by rw [HS.out]; rfl))
      exact StepsJ.nil
    case hend =>
      intro b f w10 hb hJ
      try dsimp only
      have e17 : f 17 = .bool false := hJ.pure 17 _ (by rw [HS.out]; rfl) (hb 17 (by decide))
      have kk := hJ.k
      clear hJ hb
      have T_10 := Lib.hid (T_9.out.kp kk)
      have Z_10 := Lib.hid (Z_9.out.kp kk)
      have Vx_10 := Lib.hid (Vx_9.out.kp kk)
      have Bx_10 := Lib.hid (Bx_9.out.kp kk)
      have Vy_10 := Lib.hid (Vy_9.out.kp kk)
      have By_10 := Lib.hid (By_9.out.kp kk)
      have Vz_10 := Lib.hid (Vz_9.out.kp kk)
      have Bz_10 := Lib.hid (Bz_9.out.kp kk)
      have Vq_10 := Lib.hid (Vq_9.out.kp kk)
      have Bq_10 := Lib.hid (Bq_9.out.kp kk)
      clear kk T_9 Z_9 Vx_9 Bx_9 Vy_9 By_9 Vz_9 Bz_9 Vq_9 Bq_9
      simp only [e17]
      clear e17
      generalize f 0 = yb0
      generalize f 1 = yb1
      generalize f 2 = yb2
      generalize f 3 = yb3
      generalize f 4 = yb4
      generalize f 5 = yb5
      generalize f 6 = yb6
      generalize f 7 = yb7
      generalize f 8 = yb8
      generalize f 9 = yb9
      generalize f 10 = yb10
      generalize f 11 = yb11
      generalize f 12 = yb12
      generalize f 13 = yb13
      generalize f 14 = yb14
      generalize f 15 = yb15
      generalize f 16 = yb16
      clear HS S f b
      obtain ⟨xz0, xz1, xz2⟩ := T_10.out.ra.cells
      obtain ⟨yz0, yz1, yz2⟩ := T_10.out.rb.cells
      obtain ⟨zz0, zz1, zz2⟩ := T_10.out.rc.cells
      obtain ⟨xg0, xg1, xg2, _⟩ := Bx_10.out.cells
      obtain ⟨yg0, yg1, yg2, _⟩ := By_10.out.cells
      obtain ⟨zg0, zg1, zg2, _⟩ := Bz_10.out.cells
      obtain ⟨qg0, qg1, qg2, _⟩ := Bq_10.out.cells
      go_upto_region 7 with fail
      have T_11 := Lib.hid (T_10.out.kp (Below.refl _ _).drew)
      have Z_11 := Lib.hid (Z_10.out.kp (Below.refl _ _).drew)
      have Vx_11 := Lib.hid (Vx_10.out.kp (Below.refl _ _).drew)
      have Bx_11 := Lib.hid (Bx_10.out.kp (Below.refl _ _).drew)
      have Vy_11 := Lib.hid (Vy_10.out.kp (Below.refl _ _).drew)
      have By_11 := Lib.hid (By_10.out.kp (Below.refl _ _).drew)
      have Vz_11 := Lib.hid (Vz_10.out.kp (Below.refl _ _).drew)
      have Bz_11 := Lib.hid (Bz_10.out.kp (Below.refl _ _).drew)
      have Vq_11 := Lib.hid (Vq_10.out.kp (Below.refl _ _).drew)
      have Bq_11 := Lib.hid (Bq_10.out.kp (Below.refl _ _).drew)
      clear T_10 Z_10 Vx_10 Bx_10 Vy_10 By_10 Vz_10 Bz_10 Vq_10 Bq_10
      obtain ⟨S, hS⟩ : ∃ S : Plan, S = ⟨[(0, .agg #[.bool xs, .slice xq1 xr1 xs1, .slice xq2 xr2 xs2]), (1, .agg #[.bool ys, .slice yq1 yr1 ys1, .slice yq2 yr2 ys2]), (3, .agg #[.bool zs, .slice zq1 zr1 zs1, .slice zq2 zr2 zs2]), (5, .agg #[.bool xs, .slice xq1 xr1 xs1, .slice xq2 xr2 xs2]), (6, .agg #[.bool ys, .slice yq1 yr1 ys1, .slice yq2 yr2 ys2]), (7, .agg #[.bool zs, .slice zq1 zr1 zs1, .slice zq2 zr2 zs2]), (10, .bool true), (11, .bool true), (12, .agg #[.bool xs, .slice xq1 xr1 xs1, .slice xq2 xr2 xs2]), (13, .agg #[.bool ys, .slice yq1 yr1 ys1, .slice yq2 yr2 ys2]), (15, .agg #[.bool zs, .slice zq1 zr1 zs1, .slice zq2 zr2 zs2]), (17, .agg #[.bool xs, .slice xq1 xr1 xs1, .slice xq2 xr2 xs2]), (18, .agg #[.bool ys, .slice yq1 yr1 ys1, .slice yq2 yr2 ys2]), (19, .agg #[.bool zs, .slice zq1 zr1 zs1, .slice zq2 zr2 zs2]), (22, .bool true), (23, .bool true), (24, .bool true), (25, .agg #[.bool xs, .slice xq1 xr1 xs1, .slice xq2 xr2 xs2]), (26, .agg #[.bool ys, .slice yq1 yr1 ys1, .slice yq2 yr2 ys2]), (27, .agg #[.bool zs, .slice zq1 zr1 zs1, .slice zq2 zr2 zs2]), (30, .agg #[.bool xs, .slice xq1 xr1 xs1, .slice xq2 xr2 xs2]), (31, .agg #[.bool ys, .slice yq1 yr1 ys1, .slice yq2 yr2 ys2]), (33, .agg #[.bool xs, .slice xq1 xr1 xs1, .slice xq2 xr2 xs2]), (34, .agg #[.bool zs, .slice zq1 zr1 zs1, .slice zq2 zr2 zs2]), (37, .bool true), (38, .bool true), (39, .bool true), (40, .agg #[.bool xs, .slice xq1 xr1 xs1, .slice xq2 xr2 xs2]), (41, .agg #[.bool ys, .slice yq1 yr1 ys1, .slice yq2 yr2 ys2]), (43, .agg #[.bool ys, .slice yq1 yr1 ys1, .slice yq2 yr2 ys2]), (45, .agg #[.bool xs, .slice xq1 xr1 xs1, .slice xq2 xr2 xs2]), (46, .bool true), (47, .bool true), (48, .bool true), (49, .agg #[.bool xs, .slice xq1 xr1 xs1, .slice xq2 xr2 xs2]), (50, .agg #[.bool ys, .slice yq1 yr1 ys1, .slice yq2 yr2 ys2]), (52, .bool true), (53, .bool true), (54, .bool true), (55, .agg #[.bool xs, .slice xq1 xr1 xs1, .slice xq2 xr2 xs2]), (56, .agg #[.bool ys, .slice yq1 yr1 ys1, .slice yq2 yr2 ys2]), (58, .bool true), (59, .bool true), (60, .bool true), (61, .bool true), (62, .bool true), (63, .bool true)], [(2, (Xx + Xy)), (4, ((Xx + Xy) + Xz)), (8, (Xy + Xz)), (9, (Xx + (Xy + Xz))), (14, (Xx * Xy)), (16, ((Xx * Xy) * Xz)), (20, (Xy * Xz)), (21, (Xx * (Xy * Xz))), (28, (Xy + Xz)), (29, (Xx * (Xy + Xz))), (32, (Xx * Xy)), (35, (Xx * Xz)), (36, ((Xx * Xy) + (Xx * Xz))), (42, (Xx + Xy)), (44, ((Xx + Xy) - Xy)), (51, (Xx + Xy)), (57, (Xx * Xy))], [], []⟩ := ⟨_, rfl⟩
      have HS := Lib.hid hS
      clear hS
      refine' wp_region_inv (F := _) (by kernel_rfl) (by kernel_rfl) (by kernel_rfl) (PJ S _) (PJ.begin _ _ _) ?hF ?hsteps ?hend
      case hF => intro f; (try simp only [List.append]); simp only [putAll, Act.put, List.setIfInBounds_toArray, List.set_cons_zero, List.set_cons_succ, Nat.zero_add, Nat.reduceAdd]; exact rfl
      case hsteps =>
        try simp only [List.append]
        refine StepsJ.cons ?_ ?_
        · intro b f w1 hb hw hJ K hK
          have HB := Lib.hid hb
          have HJ := Lib.hid hJ
          have HW := Lib.hid hw
          clear hJ hw hb
          try dsimp only
          rw [if_pos (by rfl)]
          obtain ⟨xg0, xg1, xg2, _⟩ := (Bx_11.out.kp HJ.out.k).cells
          go_simp
          exact hK.out _ (.agg #[.bool xs, .slice xq1 xr1 xs1, .slice xq2 xr2 xs2]) _ (by (try dsimp only) <;> simp only [Act.put, List.setIfInBounds_toArray, List.set_cons_zero, List.set_cons_succ]) (HJ.out.pureStep 0 _ HB.out (by rw [HS.out]; rfl) (by rw [HS.out]; rfl) (by rw [HS.out]; rfl) (by rw [HS.out]; rfl))
        refine StepsJ.cons ?_ ?_
        · intro b f w1 hb hw hJ K hK
          have HB := Lib.hid hb
          have HJ := Lib.hid hJ
          have HW := Lib.hid hw
          clear hJ hw hb
          try dsimp only
          rw [if_pos (by rfl)]
          obtain ⟨yg0, yg1, yg2, _⟩ := (By_11.out.kp HJ.out.k).cells
          go_simp
          exact hK.out _ (.agg #[.bool ys, .slice yq1 yr1 ys1, .slice yq2 yr2 ys2]) _ (by (try dsimp only) <;> simp only [Act.put, List.setIfInBounds_toArray, List.set_cons_zero, List.set_cons_succ]) (HJ.out.pureStep 1 _ HB.out (by rw [HS.out]; rfl) (by rw [HS.out]; rfl) (by rw [HS.out]; rfl) (by rw [HS.out]; rfl))
        refine StepsJ.cons ?_ ?_
        · intro b f w1 hb hw hJ K hK
          have HB := Lib.hid hb
          have HJ := Lib.hid hJ
          have HW := Lib.hid hw
          clear hJ hw hb
          try dsimp only
          have e0 : f 0 = .agg #[.bool xs, .slice xq1 xr1 xs1, .slice xq2 xr2 xs2] := HJ.out.pure 0 _ (by rw [HS.out]; rfl) (HW.out 0 (by decide))
          have e1 : f 1 = .agg #[.bool ys, .slice yq1 yr1 ys1, .slice yq2 yr2 ys2] := HJ.out.pure 1 _ (by rw [HS.out]; rfl) (HW.out 1 (by decide))
          simp only [e0, e1]
          rw [if_pos (by rfl)]
          go_simp
          go_at_call 27
          (with_reducible refine (C2.out _ _ _ (Vx_11.out.kp HJ.out.k) (Vy_11.out.kp HJ.out.k) (Z_11.out.kp HJ.out.k)).mono ?_)
          rintro e w2 ⟨vr, rfl, hr, kk⟩
          exact hK.out _ vr _ (by (try dsimp only) <;> simp only [Act.put, List.setIfInBounds_toArray, List.set_cons_zero, List.set_cons_succ, e0, e1]) (HJ.out.callStep 2 vr _ HB.out kk hr (by rw [HS.out]; rfl) (by rw [HS.out]; rfl) (by rw [HS.out]; rfl) (by rw [HS.out]; rfl))
        refine StepsJ.cons ?_ ?_
        · intro b f w1 hb hw hJ K hK
          have HB := Lib.hid hb
          have HJ := Lib.hid hJ
          have HW := Lib.hid hw
          clear hJ hw hb
          try dsimp only
          rw [if_pos (by rfl)]
          obtain ⟨zg0, zg1, zg2, _⟩ := (Bz_11.out.kp HJ.out.k).cells
          go_simp
          exact hK.out _ (.agg #[.bool zs, .slice zq1 zr1 zs1, .slice zq2 zr2 zs2]) _ (by (try dsimp only) <;> simp only [Act.put, List.setIfInBounds_toArray, List.set_cons_zero, List.set_cons_succ]) (HJ.out.pureStep 3 _ HB.out (by rw [HS.out]; rfl) (by rw [HS.out]; rfl) (by rw [HS.out]; rfl) (by rw [HS.out]; rfl))
        refine StepsJ.cons ?_ ?_
        · intro b f w1 hb hw hJ K hK
          have HB := Lib.hid hb
          have HJ := Lib.hid hJ
          have HW := Lib.hid hw
          clear hJ hw hb
          try dsimp only
          have e3 : f 3 = .agg #[.bool zs, .slice zq1 zr1 zs1, .slice zq2 zr2 zs2] := HJ.out.pure 3 _ (by rw [HS.out]; rfl) (HW.out 3 (by decide))
          simp only [e3]
          rw [if_pos (by rfl)]
          have a2 := HJ.out.call 2 _ (by rw [HS.out]; rfl) (HW.out 2 (by decide))
          have Ha2 := Lib.hid a2
          clear a2
          go_simp
          go_at_call 27
          (with_reducible refine (C3.out _ _ _ Ha2.out (Vz_11.out.kp HJ.out.k) (Z_11.out.kp HJ.out.k)).mono ?_)
          rintro e w2 ⟨vr, rfl, hr, kk⟩
          exact hK.out _ vr _ (by (try dsimp only) <;> simp only [Act.put, List.setIfInBounds_toArray, List.set_cons_zero, List.set_cons_succ, e3]) (HJ.out.callStep 4 vr _ HB.out kk hr (by rw [HS.out]; rfl) (by rw [HS.out]; rfl) (by rw [HS.out]; rfl) (by rw [HS.out]; rfl))
        refine StepsJ.cons ?_ ?_
        · intro b f w1 hb hw hJ K hK
          have HB := Lib.hid hb
          have HJ := Lib.hid hJ
          have HW := Lib.hid hw
          clear hJ hw hb
          try dsimp only
          rw [if_pos (by rfl)]
          obtain ⟨xg0, xg1, xg2, _⟩ := (Bx_11.out.kp HJ.out.k).cells
          go_simp
          exact hK.out _ (.agg #[.bool xs, .slice xq1 xr1 xs1, .slice xq2 xr2 xs2]) _ (by (try dsimp only) <;> simp only [Act.put, List.setIfInBounds_toArray, List.set_cons_zero, List.set_cons_succ]) (HJ.out.pureStep 5 _ HB.out (by rw [HS.out]; rfl) (by rw [HS.out]; rfl) (by rw [HS.out]; rfl) (by rw [HS.out]; rfl))
        refine StepsJ.cons ?_ ?_
        · intro b f w1 hb hw hJ K hK
          have HB := Lib.hid hb
          have HJ := Lib.hid hJ
          have HW := Lib.hid hw
          clear hJ hw hb
          try dsimp only
          rw [if_pos (by rfl)]
          obtain ⟨yg0, yg1, yg2, _⟩ := (By_11.out.kp HJ.out.k).cells
          go_simp
          exact hK.out _ (.agg #[.bool ys, .slice yq1 yr1 ys1, .slice yq2 yr2 ys2]) _ (by (try dsimp only) <;> simp only [Act.put, List.setIfInBounds_toArray, List.set_cons_zero, List.set_cons_succ]) (HJ.out.pureStep 6 _ HB.out (by rw [HS.out]; rfl) (by rw [HS.out]; rfl) (by rw [HS.out]; rfl) (by rw [HS.out]; rfl))
        refine StepsJ.cons ?_ ?_
        · intro b f w1 hb hw hJ K hK
          have HB := Lib.hid hb
          have HJ := Lib.hid hJ
          have HW := Lib.hid hw
          clear hJ hw hb
          try dsimp only
          rw [if_pos (by rfl)]
          obtain ⟨zg0, zg1, zg2, _⟩ := (Bz_11.out.kp HJ.out.k).cells
          go_simp
          exact hK.out _ (.agg #[.bool zs, .slice zq1 zr1 zs1, .slice zq2 zr2 zs2]) _ (by (try dsimp only) <;> simp only [Act.put, List.setIfInBounds_toArray, List.set_cons_zero, List.set_cons_succ]) (HJ.out.pureStep 7 _ HB.out (by rw [HS.out]; rfl) (by rw [HS.out]; rfl) (by rw [HS.out]; rfl) (by rw [HS.out]; rfl))
        refine StepsJ.cons ?_ ?_
        · intro b f w1 hb hw hJ K hK
          have HB := Lib.hid hb
          have HJ := Lib.hid hJ
          have HW := Lib.hid hw
          clear hJ hw hb
          try dsimp only
          have e6 : f 6 = .agg #[.bool ys, .slice yq1 yr1 ys1, .slice yq2 yr2 ys2] := HJ.out.pure 6 _ (by rw [HS.out]; rfl) (HW.out 6 (by decide))
          have e7 : f 7 = .agg #[.bool zs, .slice zq1 zr1 zs1, .slice zq2 zr2 zs2] := HJ.out.pure 7 _ (by rw [HS.out]; rfl) (HW.out 7 (by decide))
          simp only [e6, e7]
          rw [if_pos (by rfl)]
          go_simp
          go_at_call 27
          (with_reducible refine (C4.out _ _ _ (Vy_11.out.kp HJ.out.k) (Vz_11.out.kp HJ.out.k) (Z_11.out.kp HJ.out.k)).mono ?_)
          rintro e w2 ⟨vr, rfl, hr, kk⟩
          exact hK.out _ vr _ (by (try dsimp only) <;> simp only [Act.put, List.setIfInBounds_toArray, List.set_cons_zero, List.set_cons_succ, e6, e7]) (HJ.out.callStep 8 vr _ HB.out kk hr (by rw [HS.out]; rfl) (by rw [HS.out]; rfl) (by rw [HS.out]; rfl) (by rw [HS.out]; rfl))
        refine StepsJ.cons ?_ ?_
        · intro b f w1 hb hw hJ K hK
          have HB := Lib.hid hb
          have HJ := Lib.hid hJ
          have HW := Lib.hid hw
          clear hJ hw hb
          try dsimp only
          have e5 : f 5 = .agg #[.bool xs, .slice xq1 xr1 xs1, .slice xq2 xr2 xs2] := HJ.out.pure 5 _ (by rw [HS.out]; rfl) (HW.out 5 (by decide))
          simp only [e5]
          rw [if_pos (by rfl)]
          have a8 := HJ.out.call 8 _ (by rw [HS.out]; rfl) (HW.out 8 (by decide))
          have Ha8 := Lib.hid a8
          clear a8
          go_simp
          go_at_call 27
          (with_reducible refine (C5.out _ _ _ (Vx_11.out.kp HJ.out.k) Ha8.out (Z_11.out.kp HJ.out.k)).mono ?_)
          rintro e w2 ⟨vr, rfl, hr, kk⟩
          exact hK.out _ vr _ (by (try dsimp only) <;> simp only [Act.put, List.setIfInBounds_toArray, List.set_cons_zero, List.set_cons_succ, e5]) (HJ.out.callStep 9 vr _ HB.out kk hr (by rw [HS.out]; rfl) (by rw [HS.out]; rfl) (by rw [HS.out]; rfl) (by rw [HS.out]; rfl))
        refine StepsJ.cons ?_ ?_
        · intro b f w1 hb hw hJ K hK
          have HB := Lib.hid hb
          have HJ := Lib.hid hJ
          have HW := Lib.hid hw
          clear hJ hw hb
          try dsimp only
          rw [if_pos (by rfl)]
          have a4 := HJ.out.call 4 _ (by rw [HS.out]; rfl) (HW.out 4 (by decide))
          have a9 := HJ.out.call 9 _ (by rw [HS.out]; rfl) (HW.out 9 (by decide))
          have Ha4 := Lib.hid a4
          clear a4
          have Ha9 := Lib.hid a9
          clear a9
          go_simp
          go_at_call 33
          (with_reducible refine (C6.out _ _ _ Ha4.out Ha9.out).mono ?_)
          rintro e w2 ⟨rfl, kk⟩
          exact hK.out _ (.bool true) _ (by (try dsimp only) <;> simp only [Act.put, List.setIfInBounds_toArray, List.set_cons_zero, List.set_cons_succ]) ((HJ.out.later kk).pureStep 10 _ HB.out (by rw [HS.out]; rfl) (by rw [HS.out]; rfl) (by rw [HS.out]; rfl) (by rw [HS.out]; rfl))
        refine StepsJ.cons ?_ ?_
        · intro b f w1 hb hw hJ K hK
          have HB := Lib.hid hb
          have HJ := Lib.hid hJ
          have HW := Lib.hid hw
          clear hJ hw hb
          try dsimp only
          have e10 : f 10 = .bool true := HJ.out.pure 10 _ (by rw [HS.out]; rfl) (HW.out 10 (by decide))
          simp only [e10]
          rw [if_pos (by rfl)]
          go_simp
          exact hK.out _ (.bool true) _ (by (try dsimp only) <;> simp only [Act.put, List.setIfInBounds_toArray, List.set_cons_zero, List.set_cons_succ, e10]) (HJ.out.pureStep 11 _ HB.out (by rw [HS.out]; rfl) (by rw [HS.out]; rfl) (by rw [HS.out]; rfl) (by rw [HS.out]; rfl))
        refine StepsJ.cons ?_ ?_
        · intro b f w1 hb hw hJ K hK
          have HB := Lib.hid hb
          have HJ := Lib.hid hJ
          have HW := Lib.hid hw
          clear hJ hw hb
          try dsimp only
          have e11 : f 11 = .bool true := HJ.out.pure 11 _ (by rw [HS.out]; rfl) (HW.out 11 (by decide))
          simp only [e11]
          rw [if_pos (by rfl)]
          obtain ⟨xg0, xg1, xg2, _⟩ := (Bx_11.out.kp HJ.out.k).cells
          go_simp
          exact hK.out _ (.agg #[.bool xs, .slice xq1 xr1 xs1, .slice xq2 xr2 xs2]) _ (by (try dsimp only) <;> simp only [Act.put, List.setIfInBounds_toArray, List.set_cons_zero, List.set_cons_succ, e11]) (HJ.out.pureStep 12 _ HB.out (by rw [HS.out]; rfl) (by rw [HS.out]; rfl) (by rw [HS.out]; rfl) (by rw [HS.out]; rfl))
        refine StepsJ.cons ?_ ?_
        · intro b f w1 hb hw hJ K hK
          have HB := Lib.hid hb
          have HJ := Lib.hid hJ
          have HW := Lib.hid hw
          clear hJ hw hb
          try dsimp only
          have e11 : f 11 = .bool true := HJ.out.pure 11 _ (by rw [HS.out]; rfl) (HW.out 11 (by decide))
          simp only [e11]
          rw [if_pos (by rfl)]
          obtain ⟨yg0, yg1, yg2, _⟩ := (By_11.out.kp HJ.out.k).cells
          go_simp
          exact hK.out _ (.agg #[.bool ys, .slice yq1 yr1 ys1, .slice yq2 yr2 ys2]) _ (by (try dsimp only) <;> simp only [Act.put, List.setIfInBounds_toArray, List.set_cons_zero, List.set_cons_succ, e11]) (HJ.out.pureStep 13 _ HB.out (by rw [HS.out]; rfl) (by rw [HS.out]; rfl) (by rw [HS.out]; rfl) (by rw [HS.out]; rfl))
        refine StepsJ.cons ?_ ?_
        · intro b f w1 hb hw hJ K hK
          have HB := Lib.hid hb
          have HJ := Lib.hid hJ
          have HW := Lib.hid hw
          clear hJ hw hb
          try dsimp only
          have e11 : f 11 = .bool true := HJ.out.pure 11 _ (by rw [HS.out]; rfl) (HW.out 11 (by decide))
          have e12 : f 12 = .agg #[.bool xs, .slice xq1 xr1 xs1, .slice xq2 xr2 xs2] := HJ.out.pure 12 _ (by rw [HS.out]; rfl) (HW.out 12 (by decide))
          have e13 : f 13 = .agg #[.bool ys, .slice yq1 yr1 ys1, .slice yq2 yr2 ys2] := HJ.out.pure 13 _ (by rw [HS.out]; rfl) (HW.out 13 (by decide))
          simp only [e11, e12, e13]
          rw [if_pos (by rfl)]
          go_simp
          go_at_call 31
          (with_reducible refine (C7.out _ _ _ (Vx_11.out.kp HJ.out.k) (Vy_11.out.kp HJ.out.k) (Z_11.out.kp HJ.out.k)).mono ?_)
          rintro e w2 ⟨vr, rfl, hr, kk⟩
          exact hK.out _ vr _ (by (try dsimp only) <;> simp only [Act.put, List.setIfInBounds_toArray, List.set_cons_zero, List.set_cons_succ, e11, e12, e13]) (HJ.out.callStep 14 vr _ HB.out kk hr (by rw [HS.out]; rfl) (by rw [HS.out]; rfl) (by rw [HS.out]; rfl) (by rw [HS.out]; rfl))
        refine StepsJ.cons ?_ ?_
        · intro b f w1 hb hw hJ K hK
          have HB := Lib.hid hb
          have HJ := Lib.hid hJ
          have HW := Lib.hid hw
          clear hJ hw hb
          try dsimp only
          have e11 : f 11 = .bool true := HJ.out.pure 11 _ (by rw [HS.out]; rfl) (HW.out 11 (by decide))
          simp only [e11]
          rw [if_pos (by rfl)]
          obtain ⟨zg0, zg1, zg2, _⟩ := (Bz_11.out.kp HJ.out.k).cells
          go_simp
          exact hK.out _ (.agg #[.bool zs, .slice zq1 zr1 zs1, .slice zq2 zr2 zs2]) _ (by (try dsimp only) <;> simp only [Act.put, List.setIfInBounds_toArray, List.set_cons_zero, List.set_cons_succ, e11]) (HJ.out.pureStep 15 _ HB.out (by rw [HS.out]; rfl) (by rw [HS.out]; rfl) (by rw [HS.out]; rfl) (by rw [HS.out]; rfl))
        refine StepsJ.cons ?_ ?_
        · intro b f w1 hb hw hJ K hK
          have HB := Lib.hid hb
          have HJ := Lib.hid hJ
          have HW := Lib.hid hw
          clear hJ hw hb
          try dsimp only
          have e11 : f 11 = .bool true := HJ.out.pure 11 _ (by rw [HS.out]; rfl) (HW.out 11 (by decide))
          have e15 : f 15 = .agg #[.bool zs, .slice zq1 zr1 zs1, .slice zq2 zr2 zs2] := HJ.out.pure 15 _ (by rw [HS.out]; rfl) (HW.out 15 (by decide))
          simp only [e11, e15]
          rw [if_pos (by rfl)]
          have a14 := HJ.out.call 14 _ (by rw [HS.out]; rfl) (HW.out 14 (by decide))
          have Ha14 := Lib.hid a14
          clear a14
          go_simp
          go_at_call 31
          (with_reducible refine (C8.out _ _ _ Ha14.out (Vz_11.out.kp HJ.out.k) (Z_11.out.kp HJ.out.k)).mono ?_)
          rintro e w2 ⟨vr, rfl, hr, kk⟩
          exact hK.out _ vr _ (by (try dsimp only) <;> simp only [Act.put, List.setIfInBounds_toArray, List.set_cons_zero, List.set_cons_succ, e11, e15]) (HJ.out.callStep 16 vr _ HB.out kk hr (by rw [HS.out]; rfl) (by rw [HS.out]; rfl) (by rw [HS.out]; rfl) (by rw [HS.out]; rfl))
        refine StepsJ.cons ?_ ?_
        · intro b f w1 hb hw hJ K hK
          have HB := Lib.hid hb
          have HJ := Lib.hid hJ
          have HW := Lib.hid hw
          clear hJ hw hb
          try dsimp only
          have e11 : f 11 = .bool true := HJ.out.pure 11 _ (by rw [HS.out]; rfl) (HW.out 11 (by decide))
          simp only [e11]
          rw [if_pos (by rfl)]
          obtain ⟨xg0, xg1, xg2, _⟩ := (Bx_11.out.kp HJ.out.k).cells
          go_simp
          exact hK.out _ (.agg #[.bool xs, .slice xq1 xr1 xs1, .slice xq2 xr2 xs2]) _ (by (try dsimp only) <;> simp only [Act.put, List.setIfInBounds_toArray, List.set_cons_zero, List.set_cons_succ, e11]) (HJ.out.pureStep 17 _ HB.out (by rw [HS.out]; rfl) (by rw [HS.out]; rfl) (by rw [HS.out]; rfl) (by rw [HS.out]; rfl))
        refine StepsJ.cons ?_ ?_
        · intro b f w1 hb hw hJ K hK
          have HB := Lib.hid hb
          have HJ := Lib.hid hJ
          have HW := Lib.hid hw
          clear hJ hw hb
          try dsimp only
          have e11 : f 11 = .bool true := HJ.out.pure 11 _ (by rw [HS.out]; rfl) (HW.out 11 (by decide))
          simp only [e11]
          rw [if_pos (by rfl)]
          obtain ⟨yg0, yg1, yg2, _⟩ := (By_11.out.kp HJ.out.k).cells
          go_simp
          exact hK.out _ (.agg #[.bool ys, .slice yq1 yr1 ys1, .slice yq2 yr2 ys2]) _ (by (try dsimp only) <;> simp only [Act.put, List.setIfInBounds_toArray, List.set_cons_zero, List.set_cons_succ, e11]) (HJ.out.pureStep 18 _ HB.out (by rw [HS.out]; rfl) (by rw [HS.out]; rfl) (by rw [HS.out]; rfl) (by rw [HS.out]; rfl))
        refine StepsJ.cons ?_ ?_
        · intro b f w1 hb hw hJ K hK
          have HB := Lib.hid hb
          have HJ := Lib.hid hJ
          have HW := Lib.hid hw
          clear hJ hw hb
          try dsimp only
          have e11 : f 11 = .bool true := HJ.out.pure 11 _ (by rw [HS.out]; rfl) (HW.out 11 (by decide))
          simp only [e11]
          rw [if_pos (by rfl)]
          obtain ⟨zg0, zg1, zg2, _⟩ := (Bz_11.out.kp HJ.out.k).cells
          go_simp
          exact hK.out _ (.agg #[.bool zs, .slice zq1 zr1 zs1, .slice zq2 zr2 zs2]) _ (by (try dsimp only) <;> simp only [Act.put, List.setIfInBounds_toArray, List.set_cons_zero, List.set_cons_succ, e11]) (HJ.out.pureStep 19 _ HB.out (by rw [HS.out]; rfl) (by rw [HS.out]; rfl) (by rw [HS.out]; rfl) (by rw [HS.out]; rfl))
        refine StepsJ.cons ?_ ?_
        · intro b f w1 hb hw hJ K hK
          have HB := Lib.hid hb
          have HJ := Lib.hid hJ
          have HW := Lib.hid hw
          clear hJ hw hb
          try dsimp only
          have e11 : f 11 = .bool true := HJ.out.pure 11 _ (by rw [HS.out]; rfl) (HW.out 11 (by decide))
          have e18 : f 18 = .agg #[.bool ys, .slice yq1 yr1 ys1, .slice yq2 yr2 ys2] := HJ.out.pure 18 _ (by rw [HS.out]; rfl) (HW.out 18 (by decide))
          have e19 : f 19 = .agg #[.bool zs, .slice zq1 zr1 zs1, .slice zq2 zr2 zs2] := HJ.out.pure 19 _ (by rw [HS.out]; rfl) (HW.out 19 (by decide))
          simp only [e11, e18, e19]
          rw [if_pos (by rfl)]
          go_simp
          go_at_call 31
          (with_reducible refine (C9.out _ _ _ (Vy_11.out.kp HJ.out.k) (Vz_11.out.kp HJ.out.k) (Z_11.out.kp HJ.out.k)).mono ?_)
          rintro e w2 ⟨vr, rfl, hr, kk⟩
          exact hK.out _ vr _ (by (try dsimp only) <;> simp only [Act.put, List.setIfInBounds_toArray, List.set_cons_zero, List.set_cons_succ, e11, e18, e19]) (HJ.out.callStep 20 vr _ HB.out kk hr (by rw [HS.out]; rfl) (by rw [HS.out]; rfl) (by rw [HS.out]; rfl) (by rw [HS.out]; rfl))
        refine StepsJ.cons ?_ ?_
        · intro b f w1 hb hw hJ K hK
          have HB := Lib.hid hb
          have HJ := Lib.hid hJ
          have HW := Lib.hid hw
          clear hJ hw hb
          try dsimp only
          have e11 : f 11 = .bool true := HJ.out.pure 11 _ (by rw [HS.out]; rfl) (HW.out 11 (by decide))
          have e17 : f 17 = .agg #[.bool xs, .slice xq1 xr1 xs1, .slice xq2 xr2 xs2] := HJ.out.pure 17 _ (by rw [HS.out]; rfl) (HW.out 17 (by decide))
          simp only [e11, e17]
          rw [if_pos (by rfl)]
          have a20 := HJ.out.call 20 _ (by rw [HS.out]; rfl) (HW.out 20 (by decide))
          have Ha20 := Lib.hid a20
          clear a20
          go_simp
          go_at_call 31
          (with_reducible refine (C10.out _ _ _ (Vx_11.out.kp HJ.out.k) Ha20.out (Z_11.out.kp HJ.out.k)).mono ?_)
          rintro e w2 ⟨vr, rfl, hr, kk⟩
          exact hK.out _ vr _ (by (try dsimp only) <;> simp only [Act.put, List.setIfInBounds_toArray, List.set_cons_zero, List.set_cons_succ, e11, e17]) (HJ.out.callStep 21 vr _ HB.out kk hr (by rw [HS.out]; rfl) (by rw [HS.out]; rfl) (by rw [HS.out]; rfl) (by rw [HS.out]; rfl))
        refine StepsJ.cons ?_ ?_
        · intro b f w1 hb hw hJ K hK
          have HB := Lib.hid hb
          have HJ := Lib.hid hJ
          have HW := Lib.hid hw
          clear hJ hw hb
          try dsimp only
          have e11 : f 11 = .bool true := HJ.out.pure 11 _ (by rw [HS.out]; rfl) (HW.out 11 (by decide))
          simp only [e11]
          rw [if_pos (by rfl)]
          have a16 := HJ.out.call 16 _ (by rw [HS.out]; rfl) (HW.out 16 (by decide))
          have a21 := HJ.out.call 21 _ (by rw [HS.out]; rfl) (HW.out 21 (by decide))
          have Ha16 := Lib.hid a16
          clear a16
          have Ha21 := Lib.hid a21
          clear a21
          go_simp
          go_at_call 33
          (with_reducible refine (C11.out _ _ _ Ha16.out Ha21.out).mono ?_)
          rintro e w2 ⟨rfl, kk⟩
          exact hK.out _ (.bool true) _ (by (try dsimp only) <;> simp only [Act.put, List.setIfInBounds_toArray, List.set_cons_zero, List.set_cons_succ, e11]) ((HJ.out.later kk).pureStep 22 _ HB.out (by rw [HS.out]; rfl) (by rw [HS.out]; rfl) (by rw [HS.out]; rfl) (by rw [HS.out]; rfl))
        refine StepsJ.cons ?_ ?_
        · intro b f w1 hb hw hJ K hK
          have HB := Lib.hid hb
          have HJ := Lib.hid hJ
          have HW := Lib.hid hw
          clear hJ hw hb
          try dsimp only
          have e11 : f 11 = .bool true := HJ.out.pure 11 _ (by rw [HS.out]; rfl) (HW.out 11 (by decide))
          have e22 : f 22 = .bool true := HJ.out.pure 22 _ (by rw [HS.out]; rfl) (HW.out 22 (by decide))
          simp only [e11, e22]
          rw [if_pos (by rfl)]
          go_simp
          exact hK.out _ (.bool true) _ (by (try dsimp only) <;> simp only [Act.put, List.setIfInBounds_toArray, List.set_cons_zero, List.set_cons_succ, e11, e22]) (HJ.out.pureStep 23 _ HB.out (by rw [HS.out]; rfl) (by rw [HS.out]; rfl) (by rw [HS.out]; rfl) (by rw [HS.out]; rfl))
        refine StepsJ.cons ?_ ?_
        · intro b f w1 hb hw hJ K hK
          have HB := Lib.hid hb
          have HJ := Lib.hid hJ
          have HW := Lib.hid hw
          clear hJ hw hb
          try dsimp only
          have e23 : f 23 = .bool true := HJ.out.pure 23 _ (by rw [HS.out]; rfl) (HW.out 23 (by decide))
          simp only [e23]
          rw [if_pos (by rfl)]
          go_simp
          exact hK.out _ (.bool true) _ (by (try dsimp only) <;> simp only [Act.put, List.setIfInBounds_toArray, List.set_cons_zero, List.set_cons_succ, e23]) (HJ.out.pureStep 24 _ HB.out (by rw [HS.out]; rfl) (by rw [HS.out]; rfl) (by rw [HS.out]; rfl) (by rw [HS.out]; rfl))
        refine StepsJ.cons ?_ ?_
        · intro b f w1 hb hw hJ K hK
          have HB := Lib.hid hb
          have HJ := Lib.hid hJ
          have HW := Lib.hid hw
          clear hJ hw hb
          try dsimp only
          have e24 : f 24 = .bool true := HJ.out.pure 24 _ (by rw [HS.out]; rfl) (HW.out 24 (by decide))
          simp only [e24]
          rw [if_pos (by rfl)]
          obtain ⟨xg0, xg1, xg2, _⟩ := (Bx_11.out.kp HJ.out.k).cells
          go_simp
          exact hK.out _ (.agg #[.bool xs, .slice xq1 xr1 xs1, .slice xq2 xr2 xs2]) _ (by (try dsimp only) <;> simp only [Act.put, List.setIfInBounds_toArray, List.set_cons_zero, List.set_cons_succ, e24]) (HJ.out.pureStep 25 _ HB.out (by rw [HS.out]; rfl) (by rw [HS.out]; rfl) (by rw [HS.out]; rfl) (by rw [HS.out]; rfl))
        refine StepsJ.cons ?_ ?_
        · intro b f w1 hb hw hJ K hK
          have HB := Lib.hid hb
          have HJ := Lib.hid hJ
          have HW := Lib.hid hw
          clear hJ hw hb
          try dsimp only
          have e24 : f 24 = .bool true := HJ.out.pure 24 _ (by rw [HS.out]; rfl) (HW.out 24 (by decide))
          simp only [e24]
          rw [if_pos (by rfl)]
          obtain ⟨yg0, yg1, yg2, _⟩ := (By_11.out.kp HJ.out.k).cells
          go_simp
          exact hK.out _ (.agg #[.bool ys, .slice yq1 yr1 ys1, .slice yq2 yr2 ys2]) _ (by (try dsimp only) <;> simp only [Act.put, List.setIfInBounds_toArray, List.set_cons_zero, List.set_cons_succ, e24]) (HJ.out.pureStep 26 _ HB.out (by rw [HS.out]; rfl) (by rw [HS.out]; rfl) (by rw [HS.out]; rfl) (by rw [HS.out]; rfl))
        refine StepsJ.cons ?_ ?_
        · intro b f w1 hb hw hJ K hK
          have HB := Lib.hid hb
          have HJ := Lib.hid hJ
          have HW := Lib.hid hw
          clear hJ hw hb
          try dsimp only
          have e24 : f 24 = .bool true := HJ.out.pure 24 _ (by rw [HS.out]; rfl) (HW.out 24 (by decide))
          simp only [e24]
          rw [if_pos (by rfl)]
          obtain ⟨zg0, zg1, zg2, _⟩ := (Bz_11.out.kp HJ.out.k).cells
          go_simp
          exact hK.out _ (.agg #[.bool zs, .slice zq1 zr1 zs1, .slice zq2 zr2 zs2]) _ (by (try dsimp only) <;> simp only [Act.put, List.setIfInBounds_toArray, List.set_cons_zero, List.set_cons_succ, e24]) (HJ.out.pureStep 27 _ HB.out (by rw [HS.out]; rfl) (by rw [HS.out]; rfl) (by rw [HS.out]; rfl) (by rw [HS.out]; rfl))
        refine StepsJ.cons ?_ ?_
        · intro b f w1 hb hw hJ K hK
          have HB := Lib.hid hb
          have HJ := Lib.hid hJ
          have HW := Lib.hid hw
          clear hJ hw hb
          try dsimp only
          have e24 : f 24 = .bool true := HJ.out.pure 24 _ (by rw [HS.out]; rfl) (HW.out 24 (by decide))
          have e26 : f 26 = .agg #[.bool ys, .slice yq1 yr1 ys1, .slice yq2 yr2 ys2] := HJ.out.pure 26 _ (by rw [HS.out]; rfl) (HW.out 26 (by decide))
          have e27 : f 27 = .agg #[.bool zs, .slice zq1 zr1 zs1, .slice zq2 zr2 zs2] := HJ.out.pure 27 _ (by rw [HS.out]; rfl) (HW.out 27 (by decide))
          simp only [e24, e26, e27]
          rw [if_pos (by rfl)]
          go_simp
          go_at_call 27
          (with_reducible refine (C12.out _ _ _ (Vy_11.out.kp HJ.out.k) (Vz_11.out.kp HJ.out.k) (Z_11.out.kp HJ.out.k)).mono ?_)
          rintro e w2 ⟨vr, rfl, hr, kk⟩
          exact hK.out _ vr _ (by (try dsimp only) <;> simp only [Act.put, List.setIfInBounds_toArray, List.set_cons_zero, List.set_cons_succ, e24, e26, e27]) (HJ.out.callStep 28 vr _ HB.out kk hr (by rw [HS.out]; rfl) (by rw [HS.out]; rfl) (by rw [HS.out]; rfl) (by rw [HS.out]; rfl))
        refine StepsJ.cons ?_ ?_
        · intro b f w1 hb hw hJ K hK
          have HB := Lib.hid hb
          have HJ := Lib.hid hJ
          have HW := Lib.hid hw
          clear hJ hw hb
          try dsimp only
          have e24 : f 24 = .bool true := HJ.out.pure 24 _ (by rw [HS.out]; rfl) (HW.out 24 (by decide))
          have e25 : f 25 = .agg #[.bool xs, .slice xq1 xr1 xs1, .slice xq2 xr2 xs2] := HJ.out.pure 25 _ (by rw [HS.out]; rfl) (HW.out 25 (by decide))
          simp only [e24, e25]
          rw [if_pos (by rfl)]
          have a28 := HJ.out.call 28 _ (by rw [HS.out]; rfl) (HW.out 28 (by decide))
          have Ha28 := Lib.hid a28
          clear a28
          go_simp
          go_at_call 31
          (with_reducible refine (C13.out _ _ _ (Vx_11.out.kp HJ.out.k) Ha28.out (Z_11.out.kp HJ.out.k)).mono ?_)
          rintro e w2 ⟨vr, rfl, hr, kk⟩
          exact hK.out _ vr _ (by (try dsimp only) <;> simp only [Act.put, List.setIfInBounds_toArray, List.set_cons_zero, List.set_cons_succ, e24, e25]) (HJ.out.callStep 29 vr _ HB.out kk hr (by rw [HS.out]; rfl) (by rw [HS.out]; rfl) (by rw [HS.out]; rfl) (by rw [HS.out]; rfl))
        refine StepsJ.cons ?_ ?_
        · intro b f w1 hb hw hJ K hK
          have HB := Lib.hid hb
          have HJ := Lib.hid hJ
          have HW := Lib.hid hw
          clear hJ hw hb
          try dsimp only
          have e24 : f 24 = .bool true := HJ.out.pure 24 _ (by rw [HS.out]; rfl) (HW.out 24 (by decide))
          simp only [e24]
          rw [if_pos (by rfl)]
          obtain ⟨xg0, xg1, xg2, _⟩ := (Bx_11.out.kp HJ.out.k).cells
          go_simp
          exact hK.out _ (.agg #[.bool xs, .slice xq1 xr1 xs1, .slice xq2 xr2 xs2]) _ (by (try dsimp only) <;> simp only [Act.put, List.setIfInBounds_toArray, List.set_cons_zero, List.set_cons_succ, e24]) (HJ.out.pureStep 30 _ HB.out (by rw [HS.out]; rfl) (by rw [HS.out]; rfl) (by rw [HS.out]; rfl) (by rw [HS.out]; rfl))
        refine StepsJ.cons ?_ ?_
        · intro b f w1 hb hw hJ K hK
          have HB := Lib.hid hb
          have HJ := Lib.hid hJ
          have HW := Lib.hid hw
          clear hJ hw hb
          try dsimp only
          have e24 : f 24 = .bool true := HJ.out.pure 24 _ (by rw [HS.out]; rfl) (HW.out 24 (by decide))
          simp only [e24]
          rw [if_pos (by rfl)]
          obtain ⟨yg0, yg1, yg2, _⟩ := (By_11.out.kp HJ.out.k).cells
          go_simp
          exact hK.out _ (.agg #[.bool ys, .slice yq1 yr1 ys1, .slice yq2 yr2 ys2]) _ (by (try dsimp only) <;> simp only [Act.put, List.setIfInBounds_toArray, List.set_cons_zero, List.set_cons_succ, e24]) (HJ.out.pureStep 31 _ HB.out (by rw [HS.out]; rfl) (by rw [HS.out]; rfl) (by rw [HS.out]; rfl) (by rw [HS.out]; rfl))
        refine StepsJ.cons ?_ ?_
        · intro b f w1 hb hw hJ K hK
          have HB := Lib.hid hb
          have HJ := Lib.hid hJ
          have HW := Lib.hid hw
          clear hJ hw hb
          try dsimp only
          have e24 : f 24 = .bool true := HJ.out.pure 24 _ (by rw [HS.out]; rfl) (HW.out 24 (by decide))
          have e30 : f 30 = .agg #[.bool xs, .slice xq1 xr1 xs1, .slice xq2 xr2 xs2] := HJ.out.pure 30 _ (by rw [HS.out]; rfl) (HW.out 30 (by decide))
          have e31 : f 31 = .agg #[.bool ys, .slice yq1 yr1 ys1, .slice yq2 yr2 ys2] := HJ.out.pure 31 _ (by rw [HS.out]; rfl) (HW.out 31 (by decide))
          simp only [e24, e30, e31]
          rw [if_pos (by rfl)]
          go_simp
          go_at_call 31
          (with_reducible refine (C14.out _ _ _ (Vx_11.out.kp HJ.out.k) (Vy_11.out.kp HJ.out.k) (Z_11.out.kp HJ.out.k)).mono ?_)
          rintro e w2 ⟨vr, rfl, hr, kk⟩
          exact hK.out _ vr _ (by (try dsimp only) <;> simp only [Act.put, List.setIfInBounds_toArray, List.set_cons_zero, List.set_cons_succ, e24, e30, e31]) (HJ.out.callStep 32 vr _ HB.out kk hr (by rw [HS.out]; rfl) (by rw [HS.out]; rfl) (by rw [HS.out]; rfl) (by rw [HS.out]; rfl))
        refine StepsJ.cons ?_ ?_
        · intro b f w1 hb hw hJ K hK
          have HB := Lib.hid hb
          have HJ := Lib.hid hJ
          have HW := Lib.hid hw
          clear hJ hw hb
          try dsimp only
          have e24 : f 24 = .bool true := HJ.out.pure 24 _ (by rw [HS.out]; rfl) (HW.out 24 (by decide))
          simp only [e24]
          rw [if_pos (by rfl)]
          obtain ⟨xg0, xg1, xg2, _⟩ := (Bx_11.out.kp HJ.out.k).cells
          go_simp
          exact hK.out _ (.agg #[.bool xs, .slice xq1 xr1 xs1, .slice xq2 xr2 xs2]) _ (by (try dsimp only) <;> simp only [Act.put, List.setIfInBounds_toArray, List.set_cons_zero, List.set_cons_succ, e24]) (HJ.out.pureStep 33 _ HB.out (by rw [HS.out]; rfl) (by rw [HS.out]; rfl) (by rw [HS.out]; rfl) (by rw [HS.out]; rfl))
        refine StepsJ.cons ?_ ?_
        · intro b f w1 hb hw hJ K hK
          have HB := Lib.hid hb
          have HJ := Lib.hid hJ
          have HW := Lib.hid hw
          clear hJ hw hb
          try dsimp only
          have e24 : f 24 = .bool true := HJ.out.pure 24 _ (by rw [HS.out]; rfl) (HW.out 24 (by decide))
          simp only [e24]
          rw [if_pos (by rfl)]
          obtain ⟨zg0, zg1, zg2, _⟩ := (Bz_11.out.kp HJ.out.k).cells
          go_simp
          exact hK.out _ (.agg #[.bool zs, .slice zq1 zr1 zs1, .slice zq2 zr2 zs2]) _ (by (try dsimp only) <;> simp only [Act.put, List.setIfInBounds_toArray, List.set_cons_zero, List.set_cons_succ, e24]) (HJ.out.pureStep 34 _ HB.out (by rw [HS.out]; rfl) (by rw [HS.out]; rfl) (by rw [HS.out]; rfl) (by rw [HS.out]; rfl))
        refine StepsJ.cons ?_ ?_
        · intro b f w1 hb hw hJ K hK
          have HB := Lib.hid hb
          have HJ := Lib.hid hJ
          have HW := Lib.hid hw
          clear hJ hw hb
          try dsimp only
          have e24 : f 24 = .bool true := HJ.out.pure 24 _ (by rw [HS.out]; rfl) (HW.out 24 (by decide))
          have e33 : f 33 = .agg #[.bool xs, .slice xq1 xr1 xs1, .slice xq2 xr2 xs2] := HJ.out.pure 33 _ (by rw [HS.out]; rfl) (HW.out 33 (by decide))
          have e34 : f 34 = .agg #[.bool zs, .slice zq1 zr1 zs1, .slice zq2 zr2 zs2] := HJ.out.pure 34 _ (by rw [HS.out]; rfl) (HW.out 34 (by decide))
          simp only [e24, e33, e34]
          rw [if_pos (by rfl)]
          go_simp
          go_at_call 31
          (with_reducible refine (C15.out _ _ _ (Vx_11.out.kp HJ.out.k) (Vz_11.out.kp HJ.out.k) (Z_11.out.kp HJ.out.k)).mono ?_)
          rintro e w2 ⟨vr, rfl, hr, kk⟩
          exact hK.out _ vr _ (by (try dsimp only) <;> simp only [Act.put, List.setIfInBounds_toArray, List.set_cons_zero, List.set_cons_succ, e24, e33, e34]) (HJ.out.callStep 35 vr _ HB.out kk hr (by rw [HS.out]; rfl) (by rw [HS.out]; rfl) (by rw [HS.out]; rfl) (by rw [HS.out]; rfl))
        refine StepsJ.cons ?_ ?_
        · intro b f w1 hb hw hJ K hK
          have HB := Lib.hid hb
          have HJ := Lib.hid hJ
          have HW := Lib.hid hw
          clear hJ hw hb
          try dsimp only
          have e24 : f 24 = .bool true := HJ.out.pure 24 _ (by rw [HS.out]; rfl) (HW.out 24 (by decide))
          simp only [e24]
          rw [if_pos (by rfl)]
          have a32 := HJ.out.call 32 _ (by rw [HS.out]; rfl) (HW.out 32 (by decide))
          have a35 := HJ.out.call 35 _ (by rw [HS.out]; rfl) (HW.out 35 (by decide))
          have Ha32 := Lib.hid a32
          clear a32
          have Ha35 := Lib.hid a35
          clear a35
          go_simp
          go_at_call 27
          (with_reducible refine (C16.out _ _ _ Ha32.out Ha35.out (Z_11.out.kp HJ.out.k)).mono ?_)
          rintro e w2 ⟨vr, rfl, hr, kk⟩
          exact hK.out _ vr _ (by (try dsimp only) <;> simp only [Act.put, List.setIfInBounds_toArray, List.set_cons_zero, List.set_cons_succ, e24]) (HJ.out.callStep 36 vr _ HB.out kk hr (by rw [HS.out]; rfl) (by rw [HS.out]; rfl) (by rw [HS.out]; rfl) (by rw [HS.out]; rfl))
        refine StepsJ.cons ?_ ?_
        · intro b f w1 hb hw hJ K hK
          have HB := Lib.hid hb
          have HJ := Lib.hid hJ
          have HW := Lib.hid hw
          clear hJ hw hb
          try dsimp only
          have e24 : f 24 = .bool true := HJ.out.pure 24 _ (by rw [HS.out]; rfl) (HW.out 24 (by decide))
          simp only [e24]
          rw [if_pos (by rfl)]
          have a29 := HJ.out.call 29 _ (by rw [HS.out]; rfl) (HW.out 29 (by decide))
          have a36 := HJ.out.call 36 _ (by rw [HS.out]; rfl) (HW.out 36 (by decide))
          have Ha29 := Lib.hid a29
          clear a29
          have Ha36 := Lib.hid a36
          clear a36
          go_simp
          go_at_call 33
          (with_reducible refine (C17.out _ _ _ Ha29.out Ha36.out).mono ?_)
          rintro e w2 ⟨rfl, kk⟩
          exact hK.out _ (.bool true) _ (by (try dsimp only) <;> simp only [Act.put, List.setIfInBounds_toArray, List.set_cons_zero, List.set_cons_succ, e24]) ((HJ.out.later kk).pureStep 37 _ HB.out (by rw [HS.out]; rfl) (by rw [HS.out]; rfl) (by rw [HS.out]; rfl) (by rw [HS.out]; rfl))
        refine StepsJ.cons ?_ ?_
        · intro b f w1 hb hw hJ K hK
          have HB := Lib.hid hb
          have HJ := Lib.hid hJ
          have HW := Lib.hid hw
          clear hJ hw hb
          try dsimp only
          have e24 : f 24 = .bool true := HJ.out.pure 24 _ (by rw [HS.out]; rfl) (HW.out 24 (by decide))
          have e37 : f 37 = .bool true := HJ.out.pure 37 _ (by rw [HS.out]; rfl) (HW.out 37 (by decide))
          simp only [e24, e37]
          rw [if_pos (by rfl)]
          go_simp
          exact hK.out _ (.bool true) _ (by (try dsimp only) <;> simp only [Act.put, List.setIfInBounds_toArray, List.set_cons_zero, List.set_cons_succ, e24, e37]) (HJ.out.pureStep 38 _ HB.out (by rw [HS.out]; rfl) (by rw [HS.out]; rfl) (by rw [HS.out]; rfl) (by rw [HS.out]; rfl))
        refine StepsJ.cons ?_ ?_
        · intro b f w1 hb hw hJ K hK
          have HB := Lib.hid hb
          have HJ := Lib.hid hJ
          have HW := Lib.hid hw
          clear hJ hw hb
          try dsimp only
          have e38 : f 38 = .bool true := HJ.out.pure 38 _ (by rw [HS.out]; rfl) (HW.out 38 (by decide))
          simp only [e38]
          rw [if_pos (by rfl)]
          go_simp
          exact hK.out _ (.bool true) _ (by (try dsimp only) <;> simp only [Act.put, List.setIfInBounds_toArray, List.set_cons_zero, List.set_cons_succ, e38]) (HJ.out.pureStep 39 _ HB.out (by rw [HS.out]; rfl) (by rw [HS.out]; rfl) (by rw [HS.out]; rfl) (by rw [HS.out]; rfl))
        refine StepsJ.cons ?_ ?_
        · intro b f w1 hb hw hJ K hK
          have HB := Lib.hid hb
          have HJ := Lib.hid hJ
          have HW := Lib.hid hw
          clear hJ hw hb
          try dsimp only
          have e39 : f 39 = .bool true := HJ.out.pure 39 _ (by rw [HS.out]; rfl) (HW.out 39 (by decide))
          simp only [e39]
          rw [if_pos (by rfl)]
          obtain ⟨xg0, xg1, xg2, _⟩ := (Bx_11.out.kp HJ.out.k).cells
          go_simp
          exact hK.out _ (.agg #[.bool xs, .slice xq1 xr1 xs1, .slice xq2 xr2 xs2]) _ (by (try dsimp only) <;> simp only [Act.put, List.setIfInBounds_toArray, List.set_cons_zero, List.set_cons_succ, e39]) (HJ.out.pureStep 40 _ HB.out (by rw [HS.out]; rfl) (by rw [HS.out]; rfl) (by rw [HS.out]; rfl) (by rw [HS.out]; rfl))
        refine StepsJ.cons ?_ ?_
        · intro b f w1 hb hw hJ K hK
          have HB := Lib.hid hb
          have HJ := Lib.hid hJ
          have HW := Lib.hid hw
          clear hJ hw hb
          try dsimp only
          have e39 : f 39 = .bool true := HJ.out.pure 39 _ (by rw [HS.out]; rfl) (HW.out 39 (by decide))
          simp only [e39]
          rw [if_pos (by rfl)]
          obtain ⟨yg0, yg1, yg2, _⟩ := (By_11.out.kp HJ.out.k).cells
          go_simp
          exact hK.out _ (.agg #[.bool ys, .slice yq1 yr1 ys1, .slice yq2 yr2 ys2]) _ (by (try dsimp only) <;> simp only [Act.put, List.setIfInBounds_toArray, List.set_cons_zero, List.set_cons_succ, e39]) (HJ.out.pureStep 41 _ HB.out (by rw [HS.out]; rfl) (by rw [HS.out]; rfl) (by rw [HS.out]; rfl) (by rw [HS.out]; rfl))
        refine StepsJ.cons ?_ ?_
        · intro b f w1 hb hw hJ K hK
          have HB := Lib.hid hb
          have HJ := Lib.hid hJ
          have HW := Lib.hid hw
          clear hJ hw hb
          try dsimp only
          have e39 : f 39 = .bool true := HJ.out.pure 39 _ (by rw [HS.out]; rfl) (HW.out 39 (by decide))
          have e40 : f 40 = .agg #[.bool xs, .slice xq1 xr1 xs1, .slice xq2 xr2 xs2] := HJ.out.pure 40 _ (by rw [HS.out]; rfl) (HW.out 40 (by decide))
          have e41 : f 41 = .agg #[.bool ys, .slice yq1 yr1 ys1, .slice yq2 yr2 ys2] := HJ.out.pure 41 _ (by rw [HS.out]; rfl) (HW.out 41 (by decide))
          simp only [e39, e40, e41]
          rw [if_pos (by rfl)]
          go_simp
          go_at_call 27
          (with_reducible refine (C18.out _ _ _ (Vx_11.out.kp HJ.out.k) (Vy_11.out.kp HJ.out.k) (Z_11.out.kp HJ.out.k)).mono ?_)
          rintro e w2 ⟨vr, rfl, hr, kk⟩
          exact hK.out _ vr _ (by (try dsimp only) <;> simp only [Act.put, List.setIfInBounds_toArray, List.set_cons_zero, List.set_cons_succ, e39, e40, e41]) (HJ.out.callStep 42 vr _ HB.out kk hr (by rw [HS.out]; rfl) (by rw [HS.out]; rfl) (by rw [HS.out]; rfl) (by rw [HS.out]; rfl))
        refine StepsJ.cons ?_ ?_
        · intro b f w1 hb hw hJ K hK
          have HB := Lib.hid hb
          have HJ := Lib.hid hJ
          have HW := Lib.hid hw
          clear hJ hw hb
          try dsimp only
          have e39 : f 39 = .bool true := HJ.out.pure 39 _ (by rw [HS.out]; rfl) (HW.out 39 (by decide))
          simp only [e39]
          rw [if_pos (by rfl)]
          obtain ⟨yg0, yg1, yg2, _⟩ := (By_11.out.kp HJ.out.k).cells
          go_simp
          exact hK.out _ (.agg #[.bool ys, .slice yq1 yr1 ys1, .slice yq2 yr2 ys2]) _ (by (try dsimp only) <;> simp only [Act.put, List.setIfInBounds_toArray, List.set_cons_zero, List.set_cons_succ, e39]) (HJ.out.pureStep 43 _ HB.out (by rw [HS.out]; rfl) (by rw [HS.out]; rfl) (by rw [HS.out]; rfl) (by rw [HS.out]; rfl))
        refine StepsJ.cons ?_ ?_
        · intro b f w1 hb hw hJ K hK
          have HB := Lib.hid hb
          have HJ := Lib.hid hJ
          have HW := Lib.hid hw
          clear hJ hw hb
          try dsimp only
          have e39 : f 39 = .bool true := HJ.out.pure 39 _ (by rw [HS.out]; rfl) (HW.out 39 (by decide))
          have e43 : f 43 = .agg #[.bool ys, .slice yq1 yr1 ys1, .slice yq2 yr2 ys2] := HJ.out.pure 43 _ (by rw [HS.out]; rfl) (HW.out 43 (by decide))
          simp only [e39, e43]
          rw [if_pos (by rfl)]
          have a42 := HJ.out.call 42 _ (by rw [HS.out]; rfl) (HW.out 42 (by decide))
          have Ha42 := Lib.hid a42
          clear a42
          go_simp
          go_at_call 29
          (with_reducible refine (C19.out _ _ _ Ha42.out (Vy_11.out.kp HJ.out.k) (Z_11.out.kp HJ.out.k)).mono ?_)
          rintro e w2 ⟨vr, rfl, hr, kk⟩
          exact hK.out _ vr _ (by (try dsimp only) <;> simp only [Act.put, List.setIfInBounds_toArray, List.set_cons_zero, List.set_cons_succ, e39, e43]) (HJ.out.callStep 44 vr _ HB.out kk hr (by rw [HS.out]; rfl) (by rw [HS.out]; rfl) (by rw [HS.out]; rfl) (by rw [HS.out]; rfl))
        refine StepsJ.cons ?_ ?_
        · intro b f w1 hb hw hJ K hK
          have HB := Lib.hid hb
          have HJ := Lib.hid hJ
          have HW := Lib.hid hw
          clear hJ hw hb
          try dsimp only
          have e39 : f 39 = .bool true := HJ.out.pure 39 _ (by rw [HS.out]; rfl) (HW.out 39 (by decide))
          simp only [e39]
          rw [if_pos (by rfl)]
          obtain ⟨xg0, xg1, xg2, _⟩ := (Bx_11.out.kp HJ.out.k).cells
          go_simp
          exact hK.out _ (.agg #[.bool xs, .slice xq1 xr1 xs1, .slice xq2 xr2 xs2]) _ (by (try dsimp only) <;> simp only [Act.put, List.setIfInBounds_toArray, List.set_cons_zero, List.set_cons_succ, e39]) (HJ.out.pureStep 45 _ HB.out (by rw [HS.out]; rfl) (by rw [HS.out]; rfl) (by rw [HS.out]; rfl) (by rw [HS.out]; rfl))
        refine StepsJ.cons ?_ ?_
        · intro b f w1 hb hw hJ K hK
          have HB := Lib.hid hb
          have HJ := Lib.hid hJ
          have HW := Lib.hid hw
          clear hJ hw hb
          try dsimp only
          have e39 : f 39 = .bool true := HJ.out.pure 39 _ (by rw [HS.out]; rfl) (HW.out 39 (by decide))
          have e45 : f 45 = .agg #[.bool xs, .slice xq1 xr1 xs1, .slice xq2 xr2 xs2] := HJ.out.pure 45 _ (by rw [HS.out]; rfl) (HW.out 45 (by decide))
          simp only [e39, e45]
          rw [if_pos (by rfl)]
          have a44 := HJ.out.call 44 _ (by rw [HS.out]; rfl) (HW.out 44 (by decide))
          have Ha44 := Lib.hid a44
          clear a44
          go_simp
          go_at_call 33
          (with_reducible refine (C20.out _ _ _ Ha44.out (Vx_11.out.kp HJ.out.k)).mono ?_)
          rintro e w2 ⟨rfl, kk⟩
          exact hK.out _ (.bool true) _ (by (try dsimp only) <;> simp only [Act.put, List.setIfInBounds_toArray, List.set_cons_zero, List.set_cons_succ, e39, e45]) ((HJ.out.later kk).pureStep 46 _ HB.out (by rw [HS.out]; rfl) (by rw [HS.out]; rfl) (by rw [HS.out]; rfl) (by rw [HS.out]; rfl))
        refine StepsJ.cons ?_ ?_
        · intro b f w1 hb hw hJ K hK
          have HB := Lib.hid hb
          have HJ := Lib.hid hJ
          have HW := Lib.hid hw
          clear hJ hw hb
          try dsimp only
          have e39 : f 39 = .bool true := HJ.out.pure 39 _ (by rw [HS.out]; rfl) (HW.out 39 (by decide))
          have e46 : f 46 = .bool true := HJ.out.pure 46 _ (by rw [HS.out]; rfl) (HW.out 46 (by decide))
          simp only [e39, e46]
          rw [if_pos (by rfl)]
          go_simp
          exact hK.out _ (.bool true) _ (by (try dsimp only) <;> simp only [Act.put, List.setIfInBounds_toArray, List.set_cons_zero, List.set_cons_succ, e39, e46]) (HJ.out.pureStep 47 _ HB.out (by rw [HS.out]; rfl) (by rw [HS.out]; rfl) (by rw [HS.out]; rfl) (by rw [HS.out]; rfl))
        refine StepsJ.cons ?_ ?_
        · intro b f w1 hb hw hJ K hK
          have HB := Lib.hid hb
          have HJ := Lib.hid hJ
          have HW := Lib.hid hw
          clear hJ hw hb
          try dsimp only
          have e47 : f 47 = .bool true := HJ.out.pure 47 _ (by rw [HS.out]; rfl) (HW.out 47 (by decide))
          simp only [e47]
          rw [if_pos (by rfl)]
          go_simp
          exact hK.out _ (.bool true) _ (by (try dsimp only) <;> simp only [Act.put, List.setIfInBounds_toArray, List.set_cons_zero, List.set_cons_succ, e47]) (HJ.out.pureStep 48 _ HB.out (by rw [HS.out]; rfl) (by rw [HS.out]; rfl) (by rw [HS.out]; rfl) (by rw [HS.out]; rfl))
        refine StepsJ.cons ?_ ?_
        · intro b f w1 hb hw hJ K hK
          have HB := Lib.hid hb
          have HJ := Lib.hid hJ
          have HW := Lib.hid hw
          clear hJ hw hb
          try dsimp only
          have e48 : f 48 = .bool true := HJ.out.pure 48 _ (by rw [HS.out]; rfl) (HW.out 48 (by decide))
          simp only [e48]
          rw [if_pos (by rfl)]
          obtain ⟨xg0, xg1, xg2, _⟩ := (Bx_11.out.kp HJ.out.k).cells
          go_simp
          exact hK.out _ (.agg #[.bool xs, .slice xq1 xr1 xs1, .slice xq2 xr2 xs2]) _ (by (try dsimp only) <;> simp only [Act.put, List.setIfInBounds_toArray, List.set_cons_zero, List.set_cons_succ, e48]) (HJ.out.pureStep 49 _ HB.out (by rw [HS.out]; rfl) (by rw [HS.out]; rfl) (by rw [HS.out]; rfl) (by rw [HS.out]; rfl))
        refine StepsJ.cons ?_ ?_
        · intro b f w1 hb hw hJ K hK
          have HB := Lib.hid hb
          have HJ := Lib.hid hJ
          have HW := Lib.hid hw
          clear hJ hw hb
          try dsimp only
          have e48 : f 48 = .bool true := HJ.out.pure 48 _ (by rw [HS.out]; rfl) (HW.out 48 (by decide))
          simp only [e48]
          rw [if_pos (by rfl)]
          obtain ⟨yg0, yg1, yg2, _⟩ := (By_11.out.kp HJ.out.k).cells
          go_simp
          exact hK.out _ (.agg #[.bool ys, .slice yq1 yr1 ys1, .slice yq2 yr2 ys2]) _ (by (try dsimp only) <;> simp only [Act.put, List.setIfInBounds_toArray, List.set_cons_zero, List.set_cons_succ, e48]) (HJ.out.pureStep 50 _ HB.out (by rw [HS.out]; rfl) (by rw [HS.out]; rfl) (by rw [HS.out]; rfl) (by rw [HS.out]; rfl))
        refine StepsJ.cons ?_ ?_
        · intro b f w1 hb hw hJ K hK
          have HB := Lib.hid hb
          have HJ := Lib.hid hJ
          have HW := Lib.hid hw
          clear hJ hw hb
          try dsimp only
          have e48 : f 48 = .bool true := HJ.out.pure 48 _ (by rw [HS.out]; rfl) (HW.out 48 (by decide))
          have e49 : f 49 = .agg #[.bool xs, .slice xq1 xr1 xs1, .slice xq2 xr2 xs2] := HJ.out.pure 49 _ (by rw [HS.out]; rfl) (HW.out 49 (by decide))
          have e50 : f 50 = .agg #[.bool ys, .slice yq1 yr1 ys1, .slice yq2 yr2 ys2] := HJ.out.pure 50 _ (by rw [HS.out]; rfl) (HW.out 50 (by decide))
          simp only [e48, e49, e50]
          rw [if_pos (by rfl)]
          go_simp
          go_at_call 27
          (with_reducible refine (C21.out _ _ _ (Vx_11.out.kp HJ.out.k) (Vy_11.out.kp HJ.out.k) (Z_11.out.kp HJ.out.k)).mono ?_)
          rintro e w2 ⟨vr, rfl, hr, kk⟩
          exact hK.out _ vr _ (by (try dsimp only) <;> simp only [Act.put, List.setIfInBounds_toArray, List.set_cons_zero, List.set_cons_succ, e48, e49, e50]) (HJ.out.callStep 51 vr _ HB.out kk hr (by rw [HS.out]; rfl) (by rw [HS.out]; rfl) (by rw [HS.out]; rfl) (by rw [HS.out]; rfl))
        refine StepsJ.cons ?_ ?_
        · intro b f w1 hb hw hJ K hK
          have HB := Lib.hid hb
          have HJ := Lib.hid hJ
          have HW := Lib.hid hw
          clear hJ hw hb
          try dsimp only
          have e48 : f 48 = .bool true := HJ.out.pure 48 _ (by rw [HS.out]; rfl) (HW.out 48 (by decide))
          simp only [e48]
          rw [if_pos (by rfl)]
          have a51 := HJ.out.call 51 _ (by rw [HS.out]; rfl) (HW.out 51 (by decide))
          have Ha51 := Lib.hid a51
          clear a51
          go_simp
          go_at_call 17
          (with_reducible refine (C22.out _ _ Ha51.out (Z_11.out.kp HJ.out.k)).mono ?_)
          rintro e w2 ⟨rfl, kk⟩
          exact hK.out _ (.bool true) _ (by (try dsimp only) <;> simp only [Act.put, List.setIfInBounds_toArray, List.set_cons_zero, List.set_cons_succ, e48]) ((HJ.out.later kk).pureStep 52 _ HB.out (by rw [HS.out]; rfl) (by rw [HS.out]; rfl) (by rw [HS.out]; rfl) (by rw [HS.out]; rfl))
        refine StepsJ.cons ?_ ?_
        · intro b f w1 hb hw hJ K hK
          have HB := Lib.hid hb
          have HJ := Lib.hid hJ
          have HW := Lib.hid hw
          clear hJ hw hb
          try dsimp only
          have e48 : f 48 = .bool true := HJ.out.pure 48 _ (by rw [HS.out]; rfl) (HW.out 48 (by decide))
          have e52 : f 52 = .bool true := HJ.out.pure 52 _ (by rw [HS.out]; rfl) (HW.out 52 (by decide))
          simp only [e48, e52]
          rw [if_pos (by rfl)]
          go_simp
          exact hK.out _ (.bool true) _ (by (try dsimp only) <;> simp only [Act.put, List.setIfInBounds_toArray, List.set_cons_zero, List.set_cons_succ, e48, e52]) (HJ.out.pureStep 53 _ HB.out (by rw [HS.out]; rfl) (by rw [HS.out]; rfl) (by rw [HS.out]; rfl) (by rw [HS.out]; rfl))
        refine StepsJ.cons ?_ ?_
        · intro b f w1 hb hw hJ K hK
          have HB := Lib.hid hb
          have HJ := Lib.hid hJ
          have HW := Lib.hid hw
          clear hJ hw hb
          try dsimp only
          have e53 : f 53 = .bool true := HJ.out.pure 53 _ (by rw [HS.out]; rfl) (HW.out 53 (by decide))
          simp only [e53]
          rw [if_pos (by rfl)]
          go_simp
          exact hK.out _ (.bool true) _ (by (try dsimp only) <;> simp only [Act.put, List.setIfInBounds_toArray, List.set_cons_zero, List.set_cons_succ, e53]) (HJ.out.pureStep 54 _ HB.out (by rw [HS.out]; rfl) (by rw [HS.out]; rfl) (by rw [HS.out]; rfl) (by rw [HS.out]; rfl))
        refine StepsJ.cons ?_ ?_
        · intro b f w1 hb hw hJ K hK
          have HB := Lib.hid hb
          have HJ := Lib.hid hJ
          have HW := Lib.hid hw
          clear hJ hw hb
          try dsimp only
          have e54 : f 54 = .bool true := HJ.out.pure 54 _ (by rw [HS.out]; rfl) (HW.out 54 (by decide))
          simp only [e54]
          rw [if_pos (by rfl)]
          obtain ⟨xg0, xg1, xg2, _⟩ := (Bx_11.out.kp HJ.out.k).cells
          go_simp
          exact hK.out _ (.agg #[.bool xs, .slice xq1 xr1 xs1, .slice xq2 xr2 xs2]) _ (by (try dsimp only) <;> simp only [Act.put, List.setIfInBounds_toArray, List.set_cons_zero, List.set_cons_succ, e54]) (HJ.out.pureStep 55 _ HB.out (by rw [HS.out]; rfl) (by rw [HS.out]; rfl) (by rw [HS.out]; rfl) (by rw [HS.out]; rfl))
        refine StepsJ.cons ?_ ?_
        · intro b f w1 hb hw hJ K hK
          have HB := Lib.hid hb
          have HJ := Lib.hid hJ
          have HW := Lib.hid hw
          clear hJ hw hb
          try dsimp only
          have e54 : f 54 = .bool true := HJ.out.pure 54 _ (by rw [HS.out]; rfl) (HW.out 54 (by decide))
          simp only [e54]
          rw [if_pos (by rfl)]
          obtain ⟨yg0, yg1, yg2, _⟩ := (By_11.out.kp HJ.out.k).cells
          go_simp
          exact hK.out _ (.agg #[.bool ys, .slice yq1 yr1 ys1, .slice yq2 yr2 ys2]) _ (by (try dsimp only) <;> simp only [Act.put, List.setIfInBounds_toArray, List.set_cons_zero, List.set_cons_succ, e54]) (HJ.out.pureStep 56 _ HB.out (by rw [HS.out]; rfl) (by rw [HS.out]; rfl) (by rw [HS.out]; rfl) (by rw [HS.out]; rfl))
        refine StepsJ.cons ?_ ?_
        · intro b f w1 hb hw hJ K hK
          have HB := Lib.hid hb
          have HJ := Lib.hid hJ
          have HW := Lib.hid hw
          clear hJ hw hb
          try dsimp only
          have e54 : f 54 = .bool true := HJ.out.pure 54 _ (by rw [HS.out]; rfl) (HW.out 54 (by decide))
          have e55 : f 55 = .agg #[.bool xs, .slice xq1 xr1 xs1, .slice xq2 xr2 xs2] := HJ.out.pure 55 _ (by rw [HS.out]; rfl) (HW.out 55 (by decide))
          have e56 : f 56 = .agg #[.bool ys, .slice yq1 yr1 ys1, .slice yq2 yr2 ys2] := HJ.out.pure 56 _ (by rw [HS.out]; rfl) (HW.out 56 (by decide))
          simp only [e54, e55, e56]
          rw [if_pos (by rfl)]
          go_simp
          go_at_call 31
          (with_reducible refine (C23.out _ _ _ (Vx_11.out.kp HJ.out.k) (Vy_11.out.kp HJ.out.k) (Z_11.out.kp HJ.out.k)).mono ?_)
          rintro e w2 ⟨vr, rfl, hr, kk⟩
          exact hK.out _ vr _ (by (try dsimp only) <;> simp only [Act.put, List.setIfInBounds_toArray, List.set_cons_zero, List.set_cons_succ, e54, e55, e56]) (HJ.out.callStep 57 vr _ HB.out kk hr (by rw [HS.out]; rfl) (by rw [HS.out]; rfl) (by rw [HS.out]; rfl) (by rw [HS.out]; rfl))
        refine StepsJ.cons ?_ ?_
        · intro b f w1 hb hw hJ K hK
          have HB := Lib.hid hb
          have HJ := Lib.hid hJ
          have HW := Lib.hid hw
          clear hJ hw hb
          try dsimp only
          have e54 : f 54 = .bool true := HJ.out.pure 54 _ (by rw [HS.out]; rfl) (HW.out 54 (by decide))
          simp only [e54]
          rw [if_pos (by rfl)]
          have a57 := HJ.out.call 57 _ (by rw [HS.out]; rfl) (HW.out 57 (by decide))
          have Ha57 := Lib.hid a57
          clear a57
          go_simp
          go_at_call 17
          (with_reducible refine (C24.out _ _ Ha57.out (Z_11.out.kp HJ.out.k)).mono ?_)
          rintro e w2 ⟨rfl, kk⟩
          exact hK.out _ (.bool true) _ (by (try dsimp only) <;> simp only [Act.put, List.setIfInBounds_toArray, List.set_cons_zero, List.set_cons_succ, e54]) ((HJ.out.later kk).pureStep 58 _ HB.out (by rw [HS.out]; rfl) (by rw [HS.out]; rfl) (by rw [HS.out]; rfl) (by rw [HS.out]; rfl))
        refine StepsJ.cons ?_ ?_
        · intro b f w1 hb hw hJ K hK
          have HB := Lib.hid hb
          have HJ := Lib.hid hJ
          have HW := Lib.hid hw
          clear hJ hw hb
          try dsimp only
          have e54 : f 54 = .bool true := HJ.out.pure 54 _ (by rw [HS.out]; rfl) (HW.out 54 (by decide))
          have e58 : f 58 = .bool true := HJ.out.pure 58 _ (by rw [HS.out]; rfl) (HW.out 58 (by decide))
          simp only [e54, e58]
          rw [if_pos (by rfl)]
          go_simp
          exact hK.out _ (.bool true) _ (by (try dsimp only) <;> simp only [Act.put, List.setIfInBounds_toArray, List.set_cons_zero, List.set_cons_succ, e54, e58]) (HJ.out.pureStep 59 _ HB.out (by rw [HS.out]; rfl) (by rw [HS.out]; rfl) (by rw [HS.out]; rfl) (by rw [HS.out]; rfl))
        refine StepsJ.cons ?_ ?_
        · intro b f w1 hb hw hJ K hK
          have HB := Lib.hid hb
          have HJ := Lib.hid hJ
          have HW := Lib.hid hw
          clear hJ hw hb
          try dsimp only
          have e59 : f 59 = .bool true := HJ.out.pure 59 _ (by rw [HS.out]; rfl) (HW.out 59 (by decide))
          simp only [e59]
          rw [if_pos (by rfl)]
          go_simp
          exact hK.out _ (.bool true) _ (by (try dsimp only) <;> simp only [Act.put, List.setIfInBounds_toArray, List.set_cons_zero, List.set_cons_succ, e59]) (HJ.out.pureStep 60 _ HB.out (by rw [HS.out]; rfl) (by rw [HS.out]; rfl) (by rw [HS.out]; rfl) (by rw [HS.out]; rfl))
        refine StepsJ.cons ?_ ?_
        · intro b f w1 hb hw hJ K hK
          have HB := Lib.hid hb
          have HJ := Lib.hid hJ
          have HW := Lib.hid hw
          clear hJ hw hb
          try dsimp only
          have e60 : f 60 = .bool true := HJ.out.pure 60 _ (by rw [HS.out]; rfl) (HW.out 60 (by decide))
          simp only [e60]
          rw [if_pos (by rfl)]
          go_simp
          go_at_call 14
          (with_reducible refine (CAW.out _ (T_11.out.kp HJ.out.k).k (Z_11.out.kp HJ.out.k)).mono ?_)
          rintro e w2 ⟨rfl, kk⟩
          exact hK.out _ (.bool true) _ (by (try dsimp only) <;> simp only [Act.put, List.setIfInBounds_toArray, List.set_cons_zero, List.set_cons_succ, e60]) ((HJ.out.later kk).pureStep 61 _ HB.out (by rw [HS.out]; rfl) (by rw [HS.out]; rfl) (by rw [HS.out]; rfl) (by rw [HS.out]; rfl))
        refine StepsJ.cons ?_ ?_
        · intro b f w1 hb hw hJ K hK
          have HB := Lib.hid hb
          have HJ := Lib.hid hJ
          have HW := Lib.hid hw
          clear hJ hw hb
          try dsimp only
          have e60 : f 60 = .bool true := HJ.out.pure 60 _ (by rw [HS.out]; rfl) (HW.out 60 (by decide))
          have e61 : f 61 = .bool true := HJ.out.pure 61 _ (by rw [HS.out]; rfl) (HW.out 61 (by decide))
          simp only [e60, e61]
          rw [if_pos (by rfl)]
          go_simp
          exact hK.out _ (.bool true) _ (by (try dsimp only) <;> simp only [Act.put, List.setIfInBounds_toArray, List.set_cons_zero, List.set_cons_succ, e60, e61]) (HJ.out.pureStep 62 _ HB.out (by rw [HS.out]; rfl) (by rw [HS.out]; rfl) (by rw [HS.out]; rfl) (by rw [HS.out]; rfl))
        refine StepsJ.cons ?_ ?_
        · intro b f w1 hb hw hJ K hK
          have HB := Lib.hid hb
          have HJ := Lib.hid hJ
          have HW := Lib.hid hw
          clear hJ hw hb
          try dsimp only
          have e62 : f 62 = .bool true := HJ.out.pure 62 _ (by rw [HS.out]; rfl) (HW.out 62 (by decide))
          simp only [e62]
          rw [if_pos (by rfl)]
          go_simp
          exact hK.out _ (.bool true) _ (by (try dsimp only) <;> simp only [Act.put, List.setIfInBounds_toArray, List.set_cons_zero, List.set_cons_succ, e62]) (HJ.out.pureStep 63 _ HB.out (by rw [HS.out]; rfl) (by rw [HS.out]; rfl) (by rw [HS.out]; rfl) (by rw [HS.out]; rfl))
        exact StepsJ.nil
      case hend =>
        intro b f w12 hb hJ
        try dsimp only
        have e63 : f 63 = .bool true := hJ.pure 63 _ (by rw [HS.out]; rfl) (hb 63 (by decide))
        have kk := hJ.k
        clear hJ hb
        have T_12 := Lib.hid (T_11.out.kp kk)
        have Z_12 := Lib.hid (Z_11.out.kp kk)
        have Vx_12 := Lib.hid (Vx_11.out.kp kk)
        have Bx_12 := Lib.hid (Bx_11.out.kp kk)
        have Vy_12 := Lib.hid (Vy_11.out.kp kk)
        have By_12 := Lib.hid (By_11.out.kp kk)
        have Vz_12 := Lib.hid (Vz_11.out.kp kk)
        have Bz_12 := Lib.hid (Bz_11.out.kp kk)
        have Vq_12 := Lib.hid (Vq_11.out.kp kk)
        have Bq_12 := Lib.hid (Bq_11.out.kp kk)
        clear kk T_11 Z_11 Vx_11 Bx_11 Vy_11 By_11 Vz_11 Bz_11 Vq_11 Bq_11
        simp only [e63]
        clear e63
        generalize f 0 = yc0
        generalize f 1 = yc1
        generalize f 2 = yc2
        generalize f 3 = yc3
        generalize f 4 = yc4
        generalize f 5 = yc5
        generalize f 6 = yc6
        generalize f 7 = yc7
        generalize f 8 = yc8
        generalize f 9 = yc9
        generalize f 10 = yc10
        generalize f 11 = yc11
        generalize f 12 = yc12
        generalize f 13 = yc13
        generalize f 14 = yc14
        generalize f 15 = yc15
        generalize f 16 = yc16
        generalize f 17 = yc17
        generalize f 18 = yc18
        generalize f 19 = yc19
        generalize f 20 = yc20
        generalize f 21 = yc21
        generalize f 22 = yc22
        generalize f 23 = yc23
        generalize f 24 = yc24
        generalize f 25 = yc25
        generalize f 26 = yc26
        generalize f 27 = yc27
        generalize f 28 = yc28
        generalize f 29 = yc29
        generalize f 30 = yc30
        generalize f 31 = yc31
        generalize f 32 = yc32
        generalize f 33 = yc33
        generalize f 34 = yc34
        generalize f 35 = yc35
        generalize f 36 = yc36
        generalize f 37 = yc37
        generalize f 38 = yc38
        generalize f 39 = yc39
        generalize f 40 = yc40
        generalize f 41 = yc41
        generalize f 42 = yc42
        generalize f 43 = yc43
        generalize f 44 = yc44
        generalize f 45 = yc45
        generalize f 46 = yc46
        generalize f 47 = yc47
        generalize f 48 = yc48
        generalize f 49 = yc49
        generalize f 50 = yc50
        generalize f 51 = yc51
        generalize f 52 = yc52
        generalize f 53 = yc53
        generalize f 54 = yc54
        generalize f 55 = yc55
        generalize f 56 = yc56
        generalize f 57 = yc57
        generalize f 58 = yc58
        generalize f 59 = yc59
        generalize f 60 = yc60
        generalize f 61 = yc61
        generalize f 62 = yc62
        clear HS S f b
        obtain ⟨xz0, xz1, xz2⟩ := T_12.out.ra.cells
        obtain ⟨yz0, yz1, yz2⟩ := T_12.out.rb.cells
        obtain ⟨zz0, zz1, zz2⟩ := T_12.out.rc.cells
        obtain ⟨xg0, xg1, xg2, _⟩ := Bx_12.out.cells
        obtain ⟨yg0, yg1, yg2, _⟩ := By_12.out.cells
        obtain ⟨zg0, zg1, zg2, _⟩ := Bz_12.out.cells
        obtain ⟨qg0, qg1, qg2, _⟩ := Bq_12.out.cells
        go_wp2
        go_ret
        exact ⟨rfl, T_12.out.k⟩

set_option maxRecDepth 20000 in
set_option maxHeartbeats 4000000 in
theorem field_some {w : World} {sa : Bool} {ua ub : Value} {n1 d1 : List Nat} {sb : Bool} {va vb : Value} {n2 d2 : List Nat} {sc : Bool} {wa wb : Value} {n3 d3 : List Nat} (hua : Rd w ua n1) (hub : Rd w ub d1) (hva : Rd w va n2) (hvb : Rd w vb d2) (hwa : Rd w wa n3) (hwb : Rd w wb d3) (h0 : numR sb n2 d2 ≠ 0) (hl : (n1.length ≤ 16 ∧ d1.length ≤ 16) ∧ (n2.length ≤ 16 ∧ d2.length ≤ 16) ∧ (n3.length ≤ 16 ∧ d3.length ≤ 16)) (htab : Lib.TabIs Tryz.prog w "internal/strconv.uint64pow10" .u64 Lib.pow10Tab) (hZ : Tz w) :
    Calls Tryz.prog 9 #[.agg #[.bool sa, ua, ub], .agg #[.bool sb, va, vb], .agg #[.bool sc, wa, wb]] w fun e w' => e = .returned (.bool true) ∧ Kp w w' := by
  have HTB := Lib.hid (Lib.tabBelow_of_tabIs htab)
  have HZ := Lib.hid hZ
  have CAW := Lib.hid (fun w' (kk : Kp w w') (t : Tz w') => qawake_any w' t (tabKp HTB.out kk))
  obtain ⟨hl1, hl2, hl3⟩ := hl
  have CL1 := Lib.hid (fun w' (kk : Kp w w') => qlight_yes (s := sa) (hua.kp kk) (hub.kp kk) hl1)
  have CN1 := Lib.hid (fun w' (kk : Kp w w') => number_any (s := sa) (hua.kp kk) (hub.kp kk) hl1.1 hl1.2)
  have Sx : RSz 16 (numR sa n1 d1) := rsz_num hua hub hl1.1 hl1.2
  obtain ⟨Xx, hXx⟩ : ∃ X, X = (numR sa n1 d1) := ⟨_, rfl⟩
  rw [← hXx] at CN1 Sx
  clear hXx
  have CL2 := Lib.hid (fun w' (kk : Kp w w') => qlight_yes (s := sb) (hva.kp kk) (hvb.kp kk) hl2)
  have CN2 := Lib.hid (fun w' (kk : Kp w w') => number_any (s := sb) (hva.kp kk) (hvb.kp kk) hl2.1 hl2.2)
  have Sy : RSz 16 (numR sb n2 d2) := rsz_num hva hvb hl2.1 hl2.2
  obtain ⟨Xy, hXy⟩ : ∃ X, X = (numR sb n2 d2) := ⟨_, rfl⟩
  rw [← hXy] at CN2 Sy h0
  clear hXy
  have CL3 := Lib.hid (fun w' (kk : Kp w w') => qlight_yes (s := sc) (hwa.kp kk) (hwb.kp kk) hl3)
  have CN3 := Lib.hid (fun w' (kk : Kp w w') => number_any (s := sc) (hwa.kp kk) (hwb.kp kk) hl3.1 hl3.2)
  have Sz : RSz 16 (numR sc n3 d3) := rsz_num hwa hwb hl3.1 hl3.2
  obtain ⟨Xz, hXz⟩ : ∃ X, X = (numR sc n3 d3) := ⟨_, rfl⟩
  rw [← hXz] at CN3 Sz
  clear hXz
  obtain ⟨xo1, xl1, xc1, rfl⟩ := rd_slice hua
  obtain ⟨xo2, xl2, xc2, rfl⟩ := rd_slice hub
  obtain ⟨yo1, yl1, yc1, rfl⟩ := rd_slice hva
  obtain ⟨yo2, yl2, yc2, rfl⟩ := rd_slice hvb
  obtain ⟨zo1, zl1, zc1, rfl⟩ := rd_slice hwa
  obtain ⟨zo2, zl2, zc2, rfl⟩ := rd_slice hwb
  have HT := Lib.hid (Rw3.new w (.bool sa) (.slice xo1 xl1 xc1) (.slice xo2 xl2 xc2) (.bool sb) (.slice yo1 yl1 yc1) (.slice yo2 yl2 yc2) (.bool sc) (.slice zo1 zl1 zc1) (.slice zo2 zl2 zc2))
  have CQ1 := Lib.hid (fun w' a b (ha : RatV w' a (Xx)) (hb : RatV w' b (Xy)) (t : Tz w') => quo_some ha hb Sx Sy (by omega) (by omega) h0 t)
  have SQ : RSz 32 (Xx / Xy) := by rw [Rat.div_def]; exact RSz.mono (Sx.mul (rsz_inv Sy)) (by omega)
  obtain ⟨sv, hsv⟩ : ∃ c : Int, c = sgnR Xy := ⟨_, rfl⟩
  have hs0 : sv ≠ 0 := by rw [hsv]; exact fun e => h0 (sgnR_eq.1 e)
  have hs1 : (sv != 0) = true := bne_iff_ne.2 hs0
  have hs2 : (sv == 0) = false := beq_eq_false_iff_ne.2 hs0
  clear hs0
  have C1 := Lib.hid (fun w' a (ha : RatV w' a (Xy)) => sign_any ha)
  rw [← hsv] at C1
  have C2 := Lib.hid (fun w' a b (ha : RatV w' a ((Xx / Xy))) (hb : RatV w' b (Xy)) (t : Tz w') => qmul_any ha hb SQ Sy (by omega) (by omega) t)
  have C3 := Lib.hid (fun w' a b (ha : RatV w' a ((Xx / Xy * Xy))) (hb : RatV w' b (Xx)) => by have h := rsame_any ha hb; rw [decide_eq_true (show ((Xx / Xy * Xy)) = (Xx) from Rat.div_mul_cancel h0)] at h; exact h)
  clear hsv SQ
  have C4 := Lib.hid (fun w' a b (ha : RatV w' a (Xx)) (hb : RatV w' b (Xy)) (t : Tz w') => qadd_any ha hb Sx Sy (by omega) (by omega) t)
  have C5 := Lib.hid (fun w' a b (ha : RatV w' a ((Xx + Xy))) (hb : RatV w' b (Xz)) (t : Tz w') => qadd_any ha hb (Sx.add Sy) Sz (by omega) (by omega) t)
  have C6 := Lib.hid (fun w' a b (ha : RatV w' a (Xy)) (hb : RatV w' b (Xz)) (t : Tz w') => qadd_any ha hb Sy Sz (by omega) (by omega) t)
  have C7 := Lib.hid (fun w' a b (ha : RatV w' a (Xx)) (hb : RatV w' b ((Xy + Xz))) (t : Tz w') => qadd_any ha hb Sx (Sy.add Sz) (by omega) (by omega) t)
  have C8 := Lib.hid (fun w' a b (ha : RatV w' a (((Xx + Xy) + Xz))) (hb : RatV w' b ((Xx + (Xy + Xz)))) => by have h := rsame_any ha hb; rw [decide_eq_true (show (((Xx + Xy) + Xz)) = ((Xx + (Xy + Xz))) from Rat.add_assoc _ _ _)] at h; exact h)
  have C9 := Lib.hid (fun w' a b (ha : RatV w' a (Xx)) (hb : RatV w' b (Xy)) (t : Tz w') => qmul_any ha hb Sx Sy (by omega) (by omega) t)
  have C10 := Lib.hid (fun w' a b (ha : RatV w' a ((Xx * Xy))) (hb : RatV w' b (Xz)) (t : Tz w') => qmul_any ha hb (Sx.mul Sy) Sz (by omega) (by omega) t)
  have C11 := Lib.hid (fun w' a b (ha : RatV w' a (Xy)) (hb : RatV w' b (Xz)) (t : Tz w') => qmul_any ha hb Sy Sz (by omega) (by omega) t)
  have C12 := Lib.hid (fun w' a b (ha : RatV w' a (Xx)) (hb : RatV w' b ((Xy * Xz))) (t : Tz w') => qmul_any ha hb Sx (Sy.mul Sz) (by omega) (by omega) t)
  have C13 := Lib.hid (fun w' a b (ha : RatV w' a (((Xx * Xy) * Xz))) (hb : RatV w' b ((Xx * (Xy * Xz)))) => by have h := rsame_any ha hb; rw [decide_eq_true (show (((Xx * Xy) * Xz)) = ((Xx * (Xy * Xz))) from Rat.mul_assoc _ _ _)] at h; exact h)
  have C14 := Lib.hid (fun w' a b (ha : RatV w' a (Xy)) (hb : RatV w' b (Xz)) (t : Tz w') => qadd_any ha hb Sy Sz (by omega) (by omega) t)
  have C15 := Lib.hid (fun w' a b (ha : RatV w' a (Xx)) (hb : RatV w' b ((Xy + Xz))) (t : Tz w') => qmul_any ha hb Sx (Sy.add Sz) (by omega) (by omega) t)
  have C16 := Lib.hid (fun w' a b (ha : RatV w' a (Xx)) (hb : RatV w' b (Xy)) (t : Tz w') => qmul_any ha hb Sx Sy (by omega) (by omega) t)
  have C17 := Lib.hid (fun w' a b (ha : RatV w' a (Xx)) (hb : RatV w' b (Xz)) (t : Tz w') => qmul_any ha hb Sx Sz (by omega) (by omega) t)
  have C18 := Lib.hid (fun w' a b (ha : RatV w' a ((Xx * Xy))) (hb : RatV w' b ((Xx * Xz))) (t : Tz w') => qadd_any ha hb (Sx.mul Sy) (Sx.mul Sz) (by omega) (by omega) t)
  have C19 := Lib.hid (fun w' a b (ha : RatV w' a ((Xx * (Xy + Xz)))) (hb : RatV w' b (((Xx * Xy) + (Xx * Xz)))) => by have h := rsame_any ha hb; rw [decide_eq_true (show ((Xx * (Xy + Xz))) = (((Xx * Xy) + (Xx * Xz))) from Rat.mul_add _ _ _)] at h; exact h)
  have C20 := Lib.hid (fun w' a b (ha : RatV w' a (Xx)) (hb : RatV w' b (Xy)) (t : Tz w') => qadd_any ha hb Sx Sy (by omega) (by omega) t)
  have C21 := Lib.hid (fun w' a b (ha : RatV w' a ((Xx + Xy))) (hb : RatV w' b (Xy)) (t : Tz w') => qsub_any ha hb (Sx.add Sy) Sy (by omega) (by omega) t)
  have C22 := Lib.hid (fun w' a b (ha : RatV w' a (((Xx + Xy) - Xy))) (hb : RatV w' b (Xx)) => by have h := rsame_any ha hb; rw [decide_eq_true (show (((Xx + Xy) - Xy)) = (Xx) from by grind)] at h; exact h)
  have C23 := Lib.hid (fun w' a b (ha : RatV w' a (Xx)) (hb : RatV w' b (Xy)) (t : Tz w') => qadd_any ha hb Sx Sy (by omega) (by omega) t)
  have C24 := Lib.hid (fun w' a (ha : RatV w' a ((Xx + Xy))) (t : Tz w') => qvalid_j ha (Sx.add Sy) (by omega) t)
  have C25 := Lib.hid (fun w' a b (ha : RatV w' a (Xx)) (hb : RatV w' b (Xy)) (t : Tz w') => qmul_any ha hb Sx Sy (by omega) (by omega) t)
  have C26 := Lib.hid (fun w' a (ha : RatV w' a ((Xx * Xy))) (t : Tz w') => qvalid_j ha (Sx.mul Sy) (by omega) t)
  clear h0
  clear hua hub hl1 Sx hva hvb hl2 Sy hwa hwb hl3 Sz htab hZ
  go_enter Tryz.func9, Tryz.ntmps9
  have Z_e := Lib.hid (HZ.out.kp HT.out.k)
  obtain ⟨xz0, xz1, xz2⟩ := HT.out.ra.cells
  obtain ⟨yz0, yz1, yz2⟩ := HT.out.rb.cells
  obtain ⟨zz0, zz1, zz2⟩ := HT.out.rc.cells
  go_wp2_with (go_at_call 13; (with_reducible refine (CL1.out _ HT.out.k).mono ?_); rintro e w2 ⟨rfl, k2⟩; refine Hid.out ?_)
  refine Lib.hid ?_
  have T_2 := Lib.hid (HT.out.kp k2)
  have Z_2 := Lib.hid (Z_e.out.kp k2)
  clear HT Z_e
  clear k2
  obtain ⟨xz0, xz1, xz2⟩ := T_2.out.ra.cells
  obtain ⟨yz0, yz1, yz2⟩ := T_2.out.rb.cells
  obtain ⟨zz0, zz1, zz2⟩ := T_2.out.rc.cells
  go_wp2_with (go_at_call 13; (with_reducible refine (CL2.out _ T_2.out.k).mono ?_); rintro e w3 ⟨rfl, k3⟩; refine Hid.out ?_)
  refine Lib.hid ?_
  have T_3 := Lib.hid (T_2.out.kp k3)
  have Z_3 := Lib.hid (Z_2.out.kp k3)
  clear T_2 Z_2
  clear k3
  obtain ⟨xz0, xz1, xz2⟩ := T_3.out.ra.cells
  obtain ⟨yz0, yz1, yz2⟩ := T_3.out.rb.cells
  obtain ⟨zz0, zz1, zz2⟩ := T_3.out.rc.cells
  go_wp2_with (go_at_call 13; (with_reducible refine (CL3.out _ T_3.out.k).mono ?_); rintro e w4 ⟨rfl, k4⟩; refine Hid.out ?_)
  refine Lib.hid ?_
  have T_4 := Lib.hid (T_3.out.kp k4)
  have Z_4 := Lib.hid (Z_3.out.kp k4)
  clear T_3 Z_3
  clear k4
  obtain ⟨xz0, xz1, xz2⟩ := T_4.out.ra.cells
  obtain ⟨yz0, yz1, yz2⟩ := T_4.out.rb.cells
  obtain ⟨zz0, zz1, zz2⟩ := T_4.out.rc.cells
  go_upto_region 3 with fail
  have T_5 := Lib.hid (T_4.out.kp (Below.refl _ _).drew)
  have Z_5 := Lib.hid (Z_4.out.kp (Below.refl _ _).drew)
  clear T_4 Z_4
  obtain ⟨S, hS⟩ : ∃ S : Plan, S = ⟨[(0, .agg #[.bool sa, .slice xo1 xl1 xc1, .slice xo2 xl2 xc2]), (2, .agg #[.bool sb, .slice yo1 yl1 yc1, .slice yo2 yl2 yc2]), (4, .agg #[.bool sc, .slice zo1 zl1 zc1, .slice zo2 zl2 zc2])], [(1, Xx), (3, Xy), (5, Xz)], [], [⟨6, 9, 1⟩, ⟨7, 10, 3⟩, ⟨8, 11, 5⟩]⟩ := ⟨_, rfl⟩
  have HS := Lib.hid hS
  clear hS
  refine' wp_region_inv (F := _) (by kernel_rfl) (by kernel_rfl) (by kernel_rfl) (PJ S _) (PJ.begin _ _ _) ?hF ?hsteps ?hend
  case hF => intro f; (try simp only [List.append]); simp only [putAll, Act.put, List.setIfInBounds_toArray, List.set_cons_zero, List.set_cons_succ, Nat.zero_add, Nat.reduceAdd]; exact rfl
  case hsteps =>
    refine StepsJ.cons ?_ ?_
    · intro b f w1 hb hw hJ K hK
      have HB := Lib.hid hb
      have HJ := Lib.hid hJ
      have HW := Lib.hid hw
      clear hJ hw hb
      try dsimp only
      rw [if_pos (by rfl)]
      obtain ⟨xz0, xz1, xz2⟩ := (T_5.out.kp HJ.out.k).ra.cells
      go_simp
      exact hK.out _ (.agg #[.bool sa, .slice xo1 xl1 xc1, .slice xo2 xl2 xc2]) _ (by (try dsimp only) <;> simp only [Act.put, List.setIfInBounds_toArray, List.set_cons_zero, List.set_cons_succ]) (HJ.out.pureStep 0 _ HB.out (by rw [HS.out]; rfl) (by rw [HS.out]; rfl) (by rw [HS.out]; rfl) (by rw [HS.out]; rfl))
    refine StepsJ.cons ?_ ?_
    · intro b f w1 hb hw hJ K hK
      have HB := Lib.hid hb
      have HJ := Lib.hid hJ
      have HW := Lib.hid hw
      clear hJ hw hb
      try dsimp only
      have e0 : f 0 = .agg #[.bool sa, .slice xo1 xl1 xc1, .slice xo2 xl2 xc2] := HJ.out.pure 0 _ (by rw [HS.out]; rfl) (HW.out 0 (by decide))
      simp only [e0]
      rw [if_pos (by rfl)]
      go_simp
      go_at_call 24
      (with_reducible refine (CN1.out _ (T_5.out.kp HJ.out.k).k).mono ?_)
      rintro e w2 ⟨vr, rfl, hr, kk⟩
      exact hK.out _ vr _ (by (try dsimp only) <;> simp only [Act.put, List.setIfInBounds_toArray, List.set_cons_zero, List.set_cons_succ, e0]) (HJ.out.callStep 1 vr _ HB.out kk hr (by rw [HS.out]; rfl) (by rw [HS.out]; rfl) (by rw [HS.out]; rfl) (by rw [HS.out]; rfl))
    refine StepsJ.cons ?_ ?_
    · intro b f w1 hb hw hJ K hK
      have HB := Lib.hid hb
      have HJ := Lib.hid hJ
      have HW := Lib.hid hw
      clear hJ hw hb
      try dsimp only
      rw [if_pos (by rfl)]
      obtain ⟨yz0, yz1, yz2⟩ := (T_5.out.kp HJ.out.k).rb.cells
      go_simp
      exact hK.out _ (.agg #[.bool sb, .slice yo1 yl1 yc1, .slice yo2 yl2 yc2]) _ (by (try dsimp only) <;> simp only [Act.put, List.setIfInBounds_toArray, List.set_cons_zero, List.set_cons_succ]) (HJ.out.pureStep 2 _ HB.out (by rw [HS.out]; rfl) (by rw [HS.out]; rfl) (by rw [HS.out]; rfl) (by rw [HS.out]; rfl))
    refine StepsJ.cons ?_ ?_
    · intro b f w1 hb hw hJ K hK
      have HB := Lib.hid hb
      have HJ := Lib.hid hJ
      have HW := Lib.hid hw
      clear hJ hw hb
      try dsimp only
      have e2 : f 2 = .agg #[.bool sb, .slice yo1 yl1 yc1, .slice yo2 yl2 yc2] := HJ.out.pure 2 _ (by rw [HS.out]; rfl) (HW.out 2 (by decide))
      simp only [e2]
      rw [if_pos (by rfl)]
      go_simp
      go_at_call 24
      (with_reducible refine (CN2.out _ (T_5.out.kp HJ.out.k).k).mono ?_)
      rintro e w2 ⟨vr, rfl, hr, kk⟩
      exact hK.out _ vr _ (by (try dsimp only) <;> simp only [Act.put, List.setIfInBounds_toArray, List.set_cons_zero, List.set_cons_succ, e2]) (HJ.out.callStep 3 vr _ HB.out kk hr (by rw [HS.out]; rfl) (by rw [HS.out]; rfl) (by rw [HS.out]; rfl) (by rw [HS.out]; rfl))
    refine StepsJ.cons ?_ ?_
    · intro b f w1 hb hw hJ K hK
      have HB := Lib.hid hb
      have HJ := Lib.hid hJ
      have HW := Lib.hid hw
      clear hJ hw hb
      try dsimp only
      rw [if_pos (by rfl)]
      obtain ⟨zz0, zz1, zz2⟩ := (T_5.out.kp HJ.out.k).rc.cells
      go_simp
      exact hK.out _ (.agg #[.bool sc, .slice zo1 zl1 zc1, .slice zo2 zl2 zc2]) _ (by (try dsimp only) <;> simp only [Act.put, List.setIfInBounds_toArray, List.set_cons_zero, List.set_cons_succ]) (HJ.out.pureStep 4 _ HB.out (by rw [HS.out]; rfl) (by rw [HS.out]; rfl) (by rw [HS.out]; rfl) (by rw [HS.out]; rfl))
    refine StepsJ.cons ?_ ?_
    · intro b f w1 hb hw hJ K hK
      have HB := Lib.hid hb
      have HJ := Lib.hid hJ
      have HW := Lib.hid hw
      clear hJ hw hb
      try dsimp only
      have e4 : f 4 = .agg #[.bool sc, .slice zo1 zl1 zc1, .slice zo2 zl2 zc2] := HJ.out.pure 4 _ (by rw [HS.out]; rfl) (HW.out 4 (by decide))
      simp only [e4]
      rw [if_pos (by rfl)]
      go_simp
      go_at_call 24
      (with_reducible refine (CN3.out _ (T_5.out.kp HJ.out.k).k).mono ?_)
      rintro e w2 ⟨vr, rfl, hr, kk⟩
      exact hK.out _ vr _ (by (try dsimp only) <;> simp only [Act.put, List.setIfInBounds_toArray, List.set_cons_zero, List.set_cons_succ, e4]) (HJ.out.callStep 5 vr _ HB.out kk hr (by rw [HS.out]; rfl) (by rw [HS.out]; rfl) (by rw [HS.out]; rfl) (by rw [HS.out]; rfl))
    refine StepsJ.cons ?_ ?_
    · intro b f w1 hb hw hJ K hK
      have HB := Lib.hid hb
      have HJ := Lib.hid hJ
      have HW := Lib.hid hw
      clear hJ hw hb
      try dsimp only
      rw [if_pos (by rfl)]
      go_simp
      exact hK.out _ _ _ (by (try dsimp only) <;> simp only [Act.put, List.setIfInBounds_toArray, List.set_cons_zero, List.set_cons_succ]) (HJ.out.allocStep 6 HB.out (by rw [HS.out]; rfl) (by rw [HS.out]; rfl) (by rw [HS.out]; rfl) (by rw [HS.out]; rfl))
    refine StepsJ.cons ?_ ?_
    · intro b f w1 hb hw hJ K hK
      have HB := Lib.hid hb
      have HJ := Lib.hid hJ
      have HW := Lib.hid hw
      clear hJ hw hb
      try dsimp only
      rw [if_pos (by rfl)]
      go_simp
      exact hK.out _ _ _ (by (try dsimp only) <;> simp only [Act.put, List.setIfInBounds_toArray, List.set_cons_zero, List.set_cons_succ]) (HJ.out.allocStep 7 HB.out (by rw [HS.out]; rfl) (by rw [HS.out]; rfl) (by rw [HS.out]; rfl) (by rw [HS.out]; rfl))
    refine StepsJ.cons ?_ ?_
    · intro b f w1 hb hw hJ K hK
      have HB := Lib.hid hb
      have HJ := Lib.hid hJ
      have HW := Lib.hid hw
      clear hJ hw hb
      try dsimp only
      rw [if_pos (by rfl)]
      go_simp
      exact hK.out _ _ _ (by (try dsimp only) <;> simp only [Act.put, List.setIfInBounds_toArray, List.set_cons_zero, List.set_cons_succ]) (HJ.out.allocStep 8 HB.out (by rw [HS.out]; rfl) (by rw [HS.out]; rfl) (by rw [HS.out]; rfl) (by rw [HS.out]; rfl))
    refine StepsJ.cons ?_ ?_
    · intro b f w1 hb hw hJ K hK
      have HB := Lib.hid hb
      have HJ := Lib.hid hJ
      have HW := Lib.hid hw
      clear hJ hw hb
      try dsimp only
      rw [if_pos (by rfl)]
      obtain ⟨g, s, o1, l1, c1, o2, l2, c2, h1, h2, hr, hn⟩ := HJ.out.storeStep ⟨6, 9, 1⟩ (by rw [HS.out]; simp) (Xx) (by rw [HS.out]; rfl) 9 rfl HB.out (HW.out 6 (by decide)) (HW.out 1 (by decide)) (by rw [HS.out]; rfl) (by rw [HS.out]; rfl) (by rw [HS.out]; rfl) (by rw [HS.out]; simp)
      have HN := Lib.hid hn
      obtain ⟨d0, d1, d2, f0, f1, f2⟩ := hr.cells
      clear hn hr
      simp only at h1 h2
      simp only [h1, h2]
      go_simp
      exact hK.out _ undef _ (by (try dsimp only) <;> simp only [Act.put, h1, h2]) (HN.out undef)
    refine StepsJ.cons ?_ ?_
    · intro b f w1 hb hw hJ K hK
      have HB := Lib.hid hb
      have HJ := Lib.hid hJ
      have HW := Lib.hid hw
      clear hJ hw hb
      try dsimp only
      rw [if_pos (by rfl)]
      obtain ⟨g, s, o1, l1, c1, o2, l2, c2, h1, h2, hr, hn⟩ := HJ.out.storeStep ⟨7, 10, 3⟩ (by rw [HS.out]; simp) (Xy) (by rw [HS.out]; rfl) 10 rfl HB.out (HW.out 7 (by decide)) (HW.out 3 (by decide)) (by rw [HS.out]; rfl) (by rw [HS.out]; rfl) (by rw [HS.out]; rfl) (by rw [HS.out]; simp)
      have HN := Lib.hid hn
      obtain ⟨d0, d1, d2, f0, f1, f2⟩ := hr.cells
      clear hn hr
      simp only at h1 h2
      simp only [h1, h2]
      go_simp
      exact hK.out _ undef _ (by (try dsimp only) <;> simp only [Act.put, h1, h2]) (HN.out undef)
    refine StepsJ.cons ?_ ?_
    · intro b f w1 hb hw hJ K hK
      have HB := Lib.hid hb
      have HJ := Lib.hid hJ
      have HW := Lib.hid hw
      clear hJ hw hb
      try dsimp only
      rw [if_pos (by rfl)]
      obtain ⟨g, s, o1, l1, c1, o2, l2, c2, h1, h2, hr, hn⟩ := HJ.out.storeStep ⟨8, 11, 5⟩ (by rw [HS.out]; simp) (Xz) (by rw [HS.out]; rfl) 11 rfl HB.out (HW.out 8 (by decide)) (HW.out 5 (by decide)) (by rw [HS.out]; rfl) (by rw [HS.out]; rfl) (by rw [HS.out]; rfl) (by rw [HS.out]; simp)
      have HN := Lib.hid hn
      obtain ⟨d0, d1, d2, f0, f1, f2⟩ := hr.cells
      clear hn hr
      simp only at h1 h2
      simp only [h1, h2]
      go_simp
      exact hK.out _ undef _ (by (try dsimp only) <;> simp only [Act.put, h1, h2]) (HN.out undef)
    exact StepsJ.nil
  case hend =>
    intro b f w6 hb hJ
    try dsimp only
    obtain ⟨gx, xs, xq1, xr1, xs1, xq2, xr2, xs2, ex, hrx, hx⟩ := hJ.all ⟨6, 9, 1⟩ (by rw [HS.out]; simp) (Xx) (by rw [HS.out]; rfl) (hb 6 (by decide)) (hb 1 (by decide)) (hb 9 (by decide))
    obtain ⟨gy, ys, yq1, yr1, ys1, yq2, yr2, ys2, ey, hry, hy⟩ := hJ.all ⟨7, 10, 3⟩ (by rw [HS.out]; simp) (Xy) (by rw [HS.out]; rfl) (hb 7 (by decide)) (hb 3 (by decide)) (hb 10 (by decide))
    obtain ⟨gz, zs, zq1, zr1, zs1, zq2, zr2, zs2, ez, hrz, hz⟩ := hJ.all ⟨8, 11, 5⟩ (by rw [HS.out]; simp) (Xz) (by rw [HS.out]; rfl) (hb 8 (by decide)) (hb 5 (by decide)) (hb 11 (by decide))
    simp only at ex ey ez
    have kk := hJ.k
    clear hJ hb
    have T_6 := Lib.hid (T_5.out.kp kk)
    have Z_6 := Lib.hid (Z_5.out.kp kk)
    clear kk T_5 Z_5
    have Vx_6 := Lib.hid hx
    have Bx_6 := Lib.hid hrx
    clear hx hrx
    have Vy_6 := Lib.hid hy
    have By_6 := Lib.hid hry
    clear hy hry
    have Vz_6 := Lib.hid hz
    have Bz_6 := Lib.hid hrz
    clear hz hrz
    simp only [ex, ey, ez]
    clear ex ey ez
    generalize f 0 = ya0
    generalize f 1 = ya1
    generalize f 2 = ya2
    generalize f 3 = ya3
    generalize f 4 = ya4
    generalize f 5 = ya5
    clear HS S f b
    obtain ⟨xz0, xz1, xz2⟩ := T_6.out.ra.cells
    obtain ⟨yz0, yz1, yz2⟩ := T_6.out.rb.cells
    obtain ⟨zz0, zz1, zz2⟩ := T_6.out.rc.cells
    obtain ⟨xg0, xg1, xg2, _⟩ := Bx_6.out.cells
    obtain ⟨yg0, yg1, yg2, _⟩ := By_6.out.cells
    obtain ⟨zg0, zg1, zg2, _⟩ := Bz_6.out.cells
    go_wp2_with (go_at_call 25; (with_reducible refine (CQ1.out _ _ _ Vx_6.out Vy_6.out Z_6.out).mono ?_); rintro e w7 ⟨vq, rfl, hq, k7⟩; refine Hid.out ?_)
    refine Lib.hid ?_
    have T_7 := Lib.hid (T_6.out.kp k7)
    have Z_7 := Lib.hid (Z_6.out.kp k7)
    have Vx_7 := Lib.hid (Vx_6.out.kp k7)
    have Bx_7 := Lib.hid (Bx_6.out.kp k7)
    have Vy_7 := Lib.hid (Vy_6.out.kp k7)
    have By_7 := Lib.hid (By_6.out.kp k7)
    have Vz_7 := Lib.hid (Vz_6.out.kp k7)
    have Bz_7 := Lib.hid (Bz_6.out.kp k7)
    clear T_6 Z_6 Vx_6 Bx_6 Vy_6 By_6 Vz_6 Bz_6
    clear k7
    obtain ⟨qs, qq1, qr1, qs1, qq2, qr2, qs2, rfl⟩ := hq.lit
    have Vq_l := Lib.hid hq
    have Bq_l := Lib.hid (Res.new w7 (.bool qs) (.slice qq1 qr1 qs1) (.slice qq2 qr2 qs2))
    clear hq
    have T_8 := Lib.hid (T_7.out.kp (Kp.alloc _ (Obj.cells #[Value.bool qs, Value.slice qq1 qr1 qs1, Value.slice qq2 qr2 qs2] 27)))
    have Z_8 := Lib.hid (Z_7.out.kp (Kp.alloc _ (Obj.cells #[Value.bool qs, Value.slice qq1 qr1 qs1, Value.slice qq2 qr2 qs2] 27)))
    have Vx_8 := Lib.hid (Vx_7.out.kp (Kp.alloc _ (Obj.cells #[Value.bool qs, Value.slice qq1 qr1 qs1, Value.slice qq2 qr2 qs2] 27)))
    have Bx_8 := Lib.hid (Bx_7.out.kp (Kp.alloc _ (Obj.cells #[Value.bool qs, Value.slice qq1 qr1 qs1, Value.slice qq2 qr2 qs2] 27)))
    have Vy_8 := Lib.hid (Vy_7.out.kp (Kp.alloc _ (Obj.cells #[Value.bool qs, Value.slice qq1 qr1 qs1, Value.slice qq2 qr2 qs2] 27)))
    have By_8 := Lib.hid (By_7.out.kp (Kp.alloc _ (Obj.cells #[Value.bool qs, Value.slice qq1 qr1 qs1, Value.slice qq2 qr2 qs2] 27)))
    have Vz_8 := Lib.hid (Vz_7.out.kp (Kp.alloc _ (Obj.cells #[Value.bool qs, Value.slice qq1 qr1 qs1, Value.slice qq2 qr2 qs2] 27)))
    have Bz_8 := Lib.hid (Bz_7.out.kp (Kp.alloc _ (Obj.cells #[Value.bool qs, Value.slice qq1 qr1 qs1, Value.slice qq2 qr2 qs2] 27)))
    have Vq_8 := Lib.hid (Vq_l.out.kp (Kp.alloc _ (Obj.cells #[Value.bool qs, Value.slice qq1 qr1 qs1, Value.slice qq2 qr2 qs2] 27)))
    clear T_7 Z_7 Vx_7 Bx_7 Vy_7 By_7 Vz_7 Bz_7 Vq_l
    obtain ⟨xz0, xz1, xz2⟩ := T_8.out.ra.cells
    obtain ⟨yz0, yz1, yz2⟩ := T_8.out.rb.cells
    obtain ⟨zz0, zz1, zz2⟩ := T_8.out.rc.cells
    obtain ⟨xg0, xg1, xg2, _⟩ := Bx_8.out.cells
    obtain ⟨yg0, yg1, yg2, _⟩ := By_8.out.cells
    obtain ⟨zg0, zg1, zg2, _⟩ := Bz_8.out.cells
    obtain ⟨qg0, qg1, qg2, _⟩ := Bq_l.out.cells
    go_upto_region 5 with fail
    have T_9 := Lib.hid (T_8.out.kp (Below.refl _ _).drew)
    have Z_9 := Lib.hid (Z_8.out.kp (Below.refl _ _).drew)
    have Vx_9 := Lib.hid (Vx_8.out.kp (Below.refl _ _).drew)
    have Bx_9 := Lib.hid (Bx_8.out.kp (Below.refl _ _).drew)
    have Vy_9 := Lib.hid (Vy_8.out.kp (Below.refl _ _).drew)
    have By_9 := Lib.hid (By_8.out.kp (Below.refl _ _).drew)
    have Vz_9 := Lib.hid (Vz_8.out.kp (Below.refl _ _).drew)
    have Bz_9 := Lib.hid (Bz_8.out.kp (Below.refl _ _).drew)
    have Vq_9 := Lib.hid (Vq_8.out.kp (Below.refl _ _).drew)
    have Bq_9 := Lib.hid (Bq_l.out.kp (Below.refl _ _).drew)
    clear T_8 Z_8 Vx_8 Bx_8 Vy_8 By_8 Vz_8 Bz_8 Vq_8 Bq_l
    obtain ⟨S, hS⟩ : ∃ S : Plan, S = ⟨[(0, .int .i64 0), (1, .bool true), (2, .agg #[.bool ys, .slice yq1 yr1 ys1, .slice yq2 yr2 ys2]), (3, .int .i64 sv), (4, .bool true), (5, .bool false), (6, .bool false), (7, .int .i64 0), (8, .bool true), (9, .bool true), (10, .agg #[.bool qs, .slice qq1 qr1 qs1, .slice qq2 qr2 qs2]), (11, .agg #[.bool ys, .slice yq1 yr1 ys1, .slice yq2 yr2 ys2]), (13, .agg #[.bool xs, .slice xq1 xr1 xs1, .slice xq2 xr2 xs2]), (14, .bool true), (15, .bool false), (16, .bool false), (17, .bool false)], [(12, (Xx / Xy * Xy))], [], []⟩ := ⟨_, rfl⟩
    have HS := Lib.hid hS
    clear hS
    refine' wp_region_inv (F := _) (by kernel_rfl) (by kernel_rfl) (by kernel_rfl) (PJ S _) (PJ.begin _ _ _) ?hF ?hsteps ?hend
    case hF => intro f; (try simp only [List.append]); simp only [putAll, Act.put, List.setIfInBounds_toArray, List.set_cons_zero, List.set_cons_succ, Nat.zero_add, Nat.reduceAdd]; exact rfl
    case hsteps =>
      refine StepsJ.cons ?_ ?_
      · intro b f w1 hb hw hJ K hK
        have HB := Lib.hid hb
        have HJ := Lib.hid hJ
        have HW := Lib.hid hw
        clear hJ hw hb
        try dsimp only
        rw [if_pos (by rfl)]
        go_simp
        exact hK.out _ (.int .i64 0) _ (by (try dsimp only) <;> simp only [Act.put, List.setIfInBounds_toArray, List.set_cons_zero, List.set_cons_succ]) (HJ.out.pureStep 0 _ HB.out (by rw [HS.out]; rfl) (by rw [HS.out]; rfl) (by rw [HS.out]; rfl) (by rw [HS.out]; rfl))
      refine StepsJ.cons ?_ ?_
      · intro b f w1 hb hw hJ K hK
        have HB := Lib.hid hb
        have HJ := Lib.hid hJ
        have HW := Lib.hid hw
        clear hJ hw hb
        try dsimp only
        have e0 : f 0 = .int .i64 0 := HJ.out.pure 0 _ (by rw [HS.out]; rfl) (HW.out 0 (by decide))
        simp only [e0]
        rw [if_pos (by rfl)]
        go_simp
        exact hK.out _ (.bool true) _ (by (try dsimp only) <;> simp only [Act.put, List.setIfInBounds_toArray, List.set_cons_zero, List.set_cons_succ, e0]) (HJ.out.pureStep 1 _ HB.out (by rw [HS.out]; rfl) (by rw [HS.out]; rfl) (by rw [HS.out]; rfl) (by rw [HS.out]; rfl))
      refine StepsJ.cons ?_ ?_
      · intro b f w1 hb hw hJ K hK
        have HB := Lib.hid hb
        have HJ := Lib.hid hJ
        have HW := Lib.hid hw
        clear hJ hw hb
        try dsimp only
        rw [if_pos (by rfl)]
        obtain ⟨yg0, yg1, yg2, _⟩ := (By_9.out.kp HJ.out.k).cells
        go_simp
        exact hK.out _ (.agg #[.bool ys, .slice yq1 yr1 ys1, .slice yq2 yr2 ys2]) _ (by (try dsimp only) <;> simp only [Act.put, List.setIfInBounds_toArray, List.set_cons_zero, List.set_cons_succ]) (HJ.out.pureStep 2 _ HB.out (by rw [HS.out]; rfl) (by rw [HS.out]; rfl) (by rw [HS.out]; rfl) (by rw [HS.out]; rfl))
      refine StepsJ.cons ?_ ?_
      · intro b f w1 hb hw hJ K hK
        have HB := Lib.hid hb
        have HJ := Lib.hid hJ
        have HW := Lib.hid hw
        clear hJ hw hb
        try dsimp only
        have e2 : f 2 = .agg #[.bool ys, .slice yq1 yr1 ys1, .slice yq2 yr2 ys2] := HJ.out.pure 2 _ (by rw [HS.out]; rfl) (HW.out 2 (by decide))
        simp only [e2]
        rw [if_pos (by rfl)]
        go_simp
        go_at_call 36
        (with_reducible refine (C1.out _ _ (Vy_9.out.kp HJ.out.k)).mono ?_)
        rintro e w2 ⟨rfl, kk⟩
        exact hK.out _ (.int .i64 sv) _ (by (try dsimp only) <;> simp only [Act.put, List.setIfInBounds_toArray, List.set_cons_zero, List.set_cons_succ, e2]) ((HJ.out.later kk).pureStep 3 _ HB.out (by rw [HS.out]; rfl) (by rw [HS.out]; rfl) (by rw [HS.out]; rfl) (by rw [HS.out]; rfl))
      refine StepsJ.cons ?_ ?_
      · intro b f w1 hb hw hJ K hK
        have HB := Lib.hid hb
        have HJ := Lib.hid hJ
        have HW := Lib.hid hw
        clear hJ hw hb
        try dsimp only
        have e3 : f 3 = .int .i64 sv := HJ.out.pure 3 _ (by rw [HS.out]; rfl) (HW.out 3 (by decide))
        simp only [e3]
        rw [if_pos (by rfl)]
        go_simp
        exact hK.out _ (.bool true) _ (by (try dsimp only) <;> simp only [Act.put, List.setIfInBounds_toArray, List.set_cons_zero, List.set_cons_succ, e3]) (HJ.out.pureStep 4 _ HB.out (by rw [HS.out]; rfl) (by rw [HS.out]; rfl) (by rw [HS.out]; rfl) (by rw [HS.out]; rfl))
      refine StepsJ.cons ?_ ?_
      · intro b f w1 hb hw hJ K hK
        have HB := Lib.hid hb
        have HJ := Lib.hid hJ
        have HW := Lib.hid hw
        clear hJ hw hb
        try dsimp only
        have e1 : f 1 = .bool true := HJ.out.pure 1 _ (by rw [HS.out]; rfl) (HW.out 1 (by decide))
        have e4 : f 4 = .bool true := HJ.out.pure 4 _ (by rw [HS.out]; rfl) (HW.out 4 (by decide))
        simp only [e1, e4]
        rw [if_pos (by rfl)]
        go_simp
        exact hK.out _ (.bool false) _ (by (try dsimp only) <;> simp only [Act.put, List.setIfInBounds_toArray, List.set_cons_zero, List.set_cons_succ, e1, e4]) (HJ.out.pureStep 5 _ HB.out (by rw [HS.out]; rfl) (by rw [HS.out]; rfl) (by rw [HS.out]; rfl) (by rw [HS.out]; rfl))
      refine StepsJ.cons ?_ ?_
      · intro b f w1 hb hw hJ K hK
        have HB := Lib.hid hb
        have HJ := Lib.hid hJ
        have HW := Lib.hid hw
        clear hJ hw hb
        try dsimp only
        have e5 : f 5 = .bool false := HJ.out.pure 5 _ (by rw [HS.out]; rfl) (HW.out 5 (by decide))
        simp only [e5]
        rw [if_pos (by rfl)]
        go_simp
        exact hK.out _ (.bool false) _ (by (try dsimp only) <;> simp only [Act.put, List.setIfInBounds_toArray, List.set_cons_zero, List.set_cons_succ, e5]) (HJ.out.pureStep 6 _ HB.out (by rw [HS.out]; rfl) (by rw [HS.out]; rfl) (by rw [HS.out]; rfl) (by rw [HS.out]; rfl))
      refine StepsJ.cons ?_ ?_
      · intro b f w1 hb hw hJ K hK
        have HB := Lib.hid hb
        have HJ := Lib.hid hJ
        have HW := Lib.hid hw
        clear hJ hw hb
        try dsimp only
        have e6 : f 6 = .bool false := HJ.out.pure 6 _ (by rw [HS.out]; rfl) (HW.out 6 (by decide))
        simp only [e6]
        rw [if_pos (by rfl)]
        go_simp
        exact hK.out _ (.int .i64 0) _ (by (try dsimp only) <;> simp only [Act.put, List.setIfInBounds_toArray, List.set_cons_zero, List.set_cons_succ, e6]) (HJ.out.pureStep 7 _ HB.out (by rw [HS.out]; rfl) (by rw [HS.out]; rfl) (by rw [HS.out]; rfl) (by rw [HS.out]; rfl))
      refine StepsJ.cons ?_ ?_
      · intro b f w1 hb hw hJ K hK
        have HB := Lib.hid hb
        have HJ := Lib.hid hJ
        have HW := Lib.hid hw
        clear hJ hw hb
        try dsimp only
        have e6 : f 6 = .bool false := HJ.out.pure 6 _ (by rw [HS.out]; rfl) (HW.out 6 (by decide))
        have e7 : f 7 = .int .i64 0 := HJ.out.pure 7 _ (by rw [HS.out]; rfl) (HW.out 7 (by decide))
        simp only [e6, e7]
        rw [if_pos (by rfl)]
        go_simp
        exact hK.out _ (.bool true) _ (by (try dsimp only) <;> simp only [Act.put, List.setIfInBounds_toArray, List.set_cons_zero, List.set_cons_succ, e6, e7]) (HJ.out.pureStep 8 _ HB.out (by rw [HS.out]; rfl) (by rw [HS.out]; rfl) (by rw [HS.out]; rfl) (by rw [HS.out]; rfl))
      refine StepsJ.cons ?_ ?_
      · intro b f w1 hb hw hJ K hK
        have HB := Lib.hid hb
        have HJ := Lib.hid hJ
        have HW := Lib.hid hw
        clear hJ hw hb
        try dsimp only
        have e6 : f 6 = .bool false := HJ.out.pure 6 _ (by rw [HS.out]; rfl) (HW.out 6 (by decide))
        have e8 : f 8 = .bool true := HJ.out.pure 8 _ (by rw [HS.out]; rfl) (HW.out 8 (by decide))
        simp only [e6, e8]
        rw [if_pos (by rfl)]
        go_simp
        exact hK.out _ (.bool true) _ (by (try dsimp only) <;> simp only [Act.put, List.setIfInBounds_toArray, List.set_cons_zero, List.set_cons_succ, e6, e8]) (HJ.out.pureStep 9 _ HB.out (by rw [HS.out]; rfl) (by rw [HS.out]; rfl) (by rw [HS.out]; rfl) (by rw [HS.out]; rfl))
      refine StepsJ.cons ?_ ?_
      · intro b f w1 hb hw hJ K hK
        have HB := Lib.hid hb
        have HJ := Lib.hid hJ
        have HW := Lib.hid hw
        clear hJ hw hb
        try dsimp only
        have e9 : f 9 = .bool true := HJ.out.pure 9 _ (by rw [HS.out]; rfl) (HW.out 9 (by decide))
        simp only [e9]
        rw [if_pos (by rfl)]
        obtain ⟨qg0, qg1, qg2, _⟩ := (Bq_9.out.kp HJ.out.k).cells
        go_simp
        exact hK.out _ (.agg #[.bool qs, .slice qq1 qr1 qs1, .slice qq2 qr2 qs2]) _ (by (try dsimp only) <;> simp only [Act.put, List.setIfInBounds_toArray, List.set_cons_zero, List.set_cons_succ, e9]) (HJ.out.pureStep 10 _ HB.out (by rw [HS.out]; rfl) (by rw [HS.out]; rfl) (by rw [HS.out]; rfl) (by rw [HS.out]; rfl))
      refine StepsJ.cons ?_ ?_
      · intro b f w1 hb hw hJ K hK
        have HB := Lib.hid hb
        have HJ := Lib.hid hJ
        have HW := Lib.hid hw
        clear hJ hw hb
        try dsimp only
        have e9 : f 9 = .bool true := HJ.out.pure 9 _ (by rw [HS.out]; rfl) (HW.out 9 (by decide))
        simp only [e9]
        rw [if_pos (by rfl)]
        obtain ⟨yg0, yg1, yg2, _⟩ := (By_9.out.kp HJ.out.k).cells
        go_simp
        exact hK.out _ (.agg #[.bool ys, .slice yq1 yr1 ys1, .slice yq2 yr2 ys2]) _ (by (try dsimp only) <;> simp only [Act.put, List.setIfInBounds_toArray, List.set_cons_zero, List.set_cons_succ, e9]) (HJ.out.pureStep 11 _ HB.out (by rw [HS.out]; rfl) (by rw [HS.out]; rfl) (by rw [HS.out]; rfl) (by rw [HS.out]; rfl))
      refine StepsJ.cons ?_ ?_
      · intro b f w1 hb hw hJ K hK
        have HB := Lib.hid hb
        have HJ := Lib.hid hJ
        have HW := Lib.hid hw
        clear hJ hw hb
        try dsimp only
        have e9 : f 9 = .bool true := HJ.out.pure 9 _ (by rw [HS.out]; rfl) (HW.out 9 (by decide))
        have e10 : f 10 = .agg #[.bool qs, .slice qq1 qr1 qs1, .slice qq2 qr2 qs2] := HJ.out.pure 10 _ (by rw [HS.out]; rfl) (HW.out 10 (by decide))
        have e11 : f 11 = .agg #[.bool ys, .slice yq1 yr1 ys1, .slice yq2 yr2 ys2] := HJ.out.pure 11 _ (by rw [HS.out]; rfl) (HW.out 11 (by decide))
        simp only [e9, e10, e11]
        rw [if_pos (by rfl)]
        go_simp
        go_at_call 31
        (with_reducible refine (C2.out _ _ _ (Vq_9.out.kp HJ.out.k) (Vy_9.out.kp HJ.out.k) (Z_9.out.kp HJ.out.k)).mono ?_)
        rintro e w2 ⟨vr, rfl, hr, kk⟩
        exact hK.out _ vr _ (by (try dsimp only) <;> simp only [Act.put, List.setIfInBounds_toArray, List.set_cons_zero, List.set_cons_succ, e9, e10, e11]) (HJ.out.callStep 12 vr _ HB.out kk hr (by rw [HS.out]; rfl) (by rw [HS.out]; rfl) (by rw [HS.out]; rfl) (by rw [HS.out]; rfl))
      refine StepsJ.cons ?_ ?_
      · intro b f w1 hb hw hJ K hK
        have HB := Lib.hid hb
        have HJ := Lib.hid hJ
        have HW := Lib.hid hw
        clear hJ hw hb
        try dsimp only
        have e9 : f 9 = .bool true := HJ.out.pure 9 _ (by rw [HS.out]; rfl) (HW.out 9 (by decide))
        simp only [e9]
        rw [if_pos (by rfl)]
        obtain ⟨xg0, xg1, xg2, _⟩ := (Bx_9.out.kp HJ.out.k).cells
        go_simp
        exact hK.out _ (.agg #[.bool xs, .slice xq1 xr1 xs1, .slice xq2 xr2 xs2]) _ (by (try dsimp only) <;> simp only [Act.put, List.setIfInBounds_toArray, List.set_cons_zero, List.set_cons_succ, e9]) (HJ.out.pureStep 13 _ HB.out (by rw [HS.out]; rfl) (by rw [HS.out]; rfl) (by rw [HS.out]; rfl) (by rw [HS.out]; rfl))
      refine StepsJ.cons ?_ ?_
      · intro b f w1 hb hw hJ K hK
        have HB := Lib.hid hb
        have HJ := Lib.hid hJ
        have HW := Lib.hid hw
        clear hJ hw hb
        try dsimp only
        have e9 : f 9 = .bool true := HJ.out.pure 9 _ (by rw [HS.out]; rfl) (HW.out 9 (by decide))
        have e13 : f 13 = .agg #[.bool xs, .slice xq1 xr1 xs1, .slice xq2 xr2 xs2] := HJ.out.pure 13 _ (by rw [HS.out]; rfl) (HW.out 13 (by decide))
        simp only [e9, e13]
        rw [if_pos (by rfl)]
        have a12 := HJ.out.call 12 _ (by rw [HS.out]; rfl) (HW.out 12 (by decide))
        have Ha12 := Lib.hid a12
        clear a12
        go_simp
        go_at_call 33
        (with_reducible refine (C3.out _ _ _ Ha12.out (Vx_9.out.kp HJ.out.k)).mono ?_)
        rintro e w2 ⟨rfl, kk⟩
        exact hK.out _ (.bool true) _ (by (try dsimp only) <;> simp only [Act.put, List.setIfInBounds_toArray, List.set_cons_zero, List.set_cons_succ, e9, e13]) ((HJ.out.later kk).pureStep 14 _ HB.out (by rw [HS.out]; rfl) (by rw [HS.out]; rfl) (by rw [HS.out]; rfl) (by rw [HS.out]; rfl))
      refine StepsJ.cons ?_ ?_
      · intro b f w1 hb hw hJ K hK
        have HB := Lib.hid hb
        have HJ := Lib.hid hJ
        have HW := Lib.hid hw
        clear hJ hw hb
        try dsimp only
        have e9 : f 9 = .bool true := HJ.out.pure 9 _ (by rw [HS.out]; rfl) (HW.out 9 (by decide))
        have e14 : f 14 = .bool true := HJ.out.pure 14 _ (by rw [HS.out]; rfl) (HW.out 14 (by decide))
        simp only [e9, e14]
        rw [if_pos (by rfl)]
        go_simp
        exact hK.out _ (.bool false) _ (by (try dsimp only) <;> simp only [Act.put, List.setIfInBounds_toArray, List.set_cons_zero, List.set_cons_succ, e9, e14]) (HJ.out.pureStep 15 _ HB.out (by rw [HS.out]; rfl) (by rw [HS.out]; rfl) (by rw [HS.out]; rfl) (by rw [HS.out]; rfl))
      refine StepsJ.cons ?_ ?_
      · intro b f w1 hb hw hJ K hK
        have HB := Lib.hid hb
        have HJ := Lib.hid hJ
        have HW := Lib.hid hw
        clear hJ hw hb
        try dsimp only
        have e6 : f 6 = .bool false := HJ.out.pure 6 _ (by rw [HS.out]; rfl) (HW.out 6 (by decide))
        have e9 : f 9 = .bool true := HJ.out.pure 9 _ (by rw [HS.out]; rfl) (HW.out 9 (by decide))
        have e15 : f 15 = .bool false := HJ.out.pure 15 _ (by rw [HS.out]; rfl) (HW.out 15 (by decide))
        simp only [e6, e9, e15]
        rw [if_pos (by rfl)]
        go_simp
        exact hK.out _ (.bool false) _ (by (try dsimp only) <;> simp only [Act.put, List.setIfInBounds_toArray, List.set_cons_zero, List.set_cons_succ, e6, e9, e15]) (HJ.out.pureStep 16 _ HB.out (by rw [HS.out]; rfl) (by rw [HS.out]; rfl) (by rw [HS.out]; rfl) (by rw [HS.out]; rfl))
      refine StepsJ.cons ?_ ?_
      · intro b f w1 hb hw hJ K hK
        have HB := Lib.hid hb
        have HJ := Lib.hid hJ
        have HW := Lib.hid hw
        clear hJ hw hb
        try dsimp only
        have e6 : f 6 = .bool false := HJ.out.pure 6 _ (by rw [HS.out]; rfl) (HW.out 6 (by decide))
        have e16 : f 16 = .bool false := HJ.out.pure 16 _ (by rw [HS.out]; rfl) (HW.out 16 (by decide))
        simp only [e6, e16]
        rw [if_pos (by rfl)]
        go_simp
        exact hK.out _ (.bool false) _ (by (try dsimp only) <;> simp only [Act.put, List.setIfInBounds_toArray, List.set_cons_zero, List.set_cons_succ, e6, e16]) (HJ.out.pureStep 17 _ HB.out (by rw [HS.out]; rfl) (by rw [HS.out]; rfl) (by rw [HS.out]; rfl) (by rw [HS.out]; rfl))
      exact StepsJ.nil
    case hend =>
      intro b f w10 hb hJ
      try dsimp only
      have e17 : f 17 = .bool false := hJ.pure 17 _ (by rw [HS.out]; rfl) (hb 17 (by decide))
      have kk := hJ.k
      clear hJ hb
      have T_10 := Lib.hid (T_9.out.kp kk)
      have Z_10 := Lib.hid (Z_9.out.kp kk)
      have Vx_10 := Lib.hid (Vx_9.out.kp kk)
      have Bx_10 := Lib.hid (Bx_9.out.kp kk)
      have Vy_10 := Lib.hid (Vy_9.out.kp kk)
      have By_10 := Lib.hid (By_9.out.kp kk)
      have Vz_10 := Lib.hid (Vz_9.out.kp kk)
      have Bz_10 := Lib.hid (Bz_9.out.kp kk)
      have Vq_10 := Lib.hid (Vq_9.out.kp kk)
      have Bq_10 := Lib.hid (Bq_9.out.kp kk)
      clear kk T_9 Z_9 Vx_9 Bx_9 Vy_9 By_9 Vz_9 Bz_9 Vq_9 Bq_9
      simp only [e17]
      clear e17
      generalize f 0 = yb0
      generalize f 1 = yb1
      generalize f 2 = yb2
      generalize f 3 = yb3
      generalize f 4 = yb4
      generalize f 5 = yb5
      generalize f 6 = yb6
      generalize f 7 = yb7
      generalize f 8 = yb8
      generalize f 9 = yb9
      generalize f 10 = yb10
      generalize f 11 = yb11
      generalize f 12 = yb12
      generalize f 13 = yb13
      generalize f 14 = yb14
      generalize f 15 = yb15
      generalize f 16 = yb16
      clear HS S f b
      obtain ⟨xz0, xz1, xz2⟩ := T_10.out.ra.cells
      obtain ⟨yz0, yz1, yz2⟩ := T_10.out.rb.cells
      obtain ⟨zz0, zz1, zz2⟩ := T_10.out.rc.cells
      obtain ⟨xg0, xg1, xg2, _⟩ := Bx_10.out.cells
      obtain ⟨yg0, yg1, yg2, _⟩ := By_10.out.cells
      obtain ⟨zg0, zg1, zg2, _⟩ := Bz_10.out.cells
      obtain ⟨qg0, qg1, qg2, _⟩ := Bq_10.out.cells
      go_upto_region 7 with fail
      have T_11 := Lib.hid (T_10.out.kp (Below.refl _ _).drew)
      have Z_11 := Lib.hid (Z_10.out.kp (Below.refl _ _).drew)
      have Vx_11 := Lib.hid (Vx_10.out.kp (Below.refl _ _).drew)
      have Bx_11 := Lib.hid (Bx_10.out.kp (Below.refl _ _).drew)
      have Vy_11 := Lib.hid (Vy_10.out.kp (Below.refl _ _).drew)
      have By_11 := Lib.hid (By_10.out.kp (Below.refl _ _).drew)
      have Vz_11 := Lib.hid (Vz_10.out.kp (Below.refl _ _).drew)
      have Bz_11 := Lib.hid (Bz_10.out.kp (Below.refl _ _).drew)
      have Vq_11 := Lib.hid (Vq_10.out.kp (Below.refl _ _).drew)
      have Bq_11 := Lib.hid (Bq_10.out.kp (Below.refl _ _).drew)
      clear T_10 Z_10 Vx_10 Bx_10 Vy_10 By_10 Vz_10 Bz_10 Vq_10 Bq_10
      obtain ⟨S, hS⟩ : ∃ S : Plan, S = ⟨[(0, .agg #[.bool xs, .slice xq1 xr1 xs1, .slice xq2 xr2 xs2]), (1, .agg #[.bool ys, .slice yq1 yr1 ys1, .slice yq2 yr2 ys2]), (3, .agg #[.bool zs, .slice zq1 zr1 zs1, .slice zq2 zr2 zs2]), (5, .agg #[.bool xs, .slice xq1 xr1 xs1, .slice xq2 xr2 xs2]), (6, .agg #[.bool ys, .slice yq1 yr1 ys1, .slice yq2 yr2 ys2]), (7, .agg #[.bool zs, .slice zq1 zr1 zs1, .slice zq2 zr2 zs2]), (10, .bool true), (11, .bool true), (12, .agg #[.bool xs, .slice xq1 xr1 xs1, .slice xq2 xr2 xs2]), (13, .agg #[.bool ys, .slice yq1 yr1 ys1, .slice yq2 yr2 ys2]), (15, .agg #[.bool zs, .slice zq1 zr1 zs1, .slice zq2 zr2 zs2]), (17, .agg #[.bool xs, .slice xq1 xr1 xs1, .slice xq2 xr2 xs2]), (18, .agg #[.bool ys, .slice yq1 yr1 ys1, .slice yq2 yr2 ys2]), (19, .agg #[.bool zs, .slice zq1 zr1 zs1, .slice zq2 zr2 zs2]), (22, .bool true), (23, .bool true), (24, .bool true), (25, .agg #[.bool xs, .slice xq1 xr1 xs1, .slice xq2 xr2 xs2]), (26, .agg #[.bool ys, .slice yq1 yr1 ys1, .slice yq2 yr2 ys2]), (27, .agg #[.bool zs, .slice zq1 zr1 zs1, .slice zq2 zr2 zs2]), (30, .agg #[.bool xs, .slice xq1 xr1 xs1, .slice xq2 xr2 xs2]), (31, .agg #[.bool ys, .slice yq1 yr1 ys1, .slice yq2 yr2 ys2]), (33, .agg #[.bool xs, .slice xq1 xr1 xs1, .slice xq2 xr2 xs2]), (34, .agg #[.bool zs, .slice zq1 zr1 zs1, .slice zq2 zr2 zs2]), (37, .bool true), (38, .bool true), (39, .bool true), (40, .agg #[.bool xs, .slice xq1 xr1 xs1, .slice xq2 xr2 xs2]), (41, .agg #[.bool ys, .slice yq1 yr1 ys1, .slice yq2 yr2 ys2]), (43, .agg #[.bool ys, .slice yq1 yr1 ys1, .slice yq2 yr2 ys2]), (45, .agg #[.bool xs, .slice xq1 xr1 xs1, .slice xq2 xr2 xs2]), (46, .bool true), (47, .bool true), (48, .bool true), (49, .agg #[.bool xs, .slice xq1 xr1 xs1, .slice xq2 xr2 xs2]), (50, .agg #[.bool ys, .slice yq1 yr1 ys1, .slice yq2 yr2 ys2]), (52, .bool true), (53, .bool true), (54, .bool true), (55, .agg #[.bool xs, .slice xq1 xr1 xs1, .slice xq2 xr2 xs2]), (56, .agg #[.bool ys, .slice yq1 yr1 ys1, .slice yq2 yr2 ys2]), (58, .bool true), (59, .bool true), (60, .bool true), (61, .bool true), (62, .bool true), (63, .bool true)], [(2, (Xx + Xy)), (4, ((Xx + Xy) + Xz)), (8, (Xy + Xz)), (9, (Xx + (Xy + Xz))), (14, (Xx * Xy)), (16, ((Xx * Xy) * Xz)), (20, (Xy * Xz)), (21, (Xx * (Xy * Xz))), (28, (Xy + Xz)), (29, (Xx * (Xy + Xz))), (32, (Xx * Xy)), (35, (Xx * Xz)), (36, ((Xx * Xy) + (Xx * Xz))), (42, (Xx + Xy)), (44, ((Xx + Xy) - Xy)), (51, (Xx + Xy)), (57, (Xx * Xy))], [], []⟩ := ⟨_, rfl⟩
      have HS := Lib.hid hS
      clear hS
      refine' wp_region_inv (F := _) (by kernel_rfl) (by kernel_rfl) (by kernel_rfl) (PJ S _) (PJ.begin _ _ _) ?hF ?hsteps ?hend
      case hF => intro f; (try simp only [List.append]); simp only [putAll, Act.put, List.setIfInBounds_toArray, List.set_cons_zero, List.set_cons_succ, Nat.zero_add, Nat.reduceAdd]; exact rfl
      case hsteps =>
        try simp only [List.append]
        refine StepsJ.cons ?_ ?_
        · intro b f w1 hb hw hJ K hK
          have HB := Lib.hid hb
          have HJ := Lib.hid hJ
          have HW := Lib.hid hw
          clear hJ hw hb
          try dsimp only
          rw [if_pos (by rfl)]
          obtain ⟨xg0, xg1, xg2, _⟩ := (Bx_11.out.kp HJ.out.k).cells
          go_simp
          exact hK.out _ (.agg #[.bool xs, .slice xq1 xr1 xs1, .slice xq2 xr2 xs2]) _ (by (try dsimp only) <;> simp only [Act.put, List.setIfInBounds_toArray, List.set_cons_zero, List.set_cons_succ]) (HJ.out.pureStep 0 _ HB.out (by rw [HS.out]; rfl) (by rw [HS.out]; rfl) (by rw [HS.out]; rfl) (by rw [HS.out]; rfl))
        refine StepsJ.cons ?_ ?_
        · intro b f w1 hb hw hJ K hK
          have HB := Lib.hid hb
          have HJ := Lib.hid hJ
          have HW := Lib.hid hw
          clear hJ hw hb
          try dsimp only
          rw [if_pos (by rfl)]
          obtain ⟨yg0, yg1, yg2, _⟩ := (By_11.out.kp HJ.out.k).cells
          go_simp
          exact hK.out _ (.agg #[.bool ys, .slice yq1 yr1 ys1, .slice yq2 yr2 ys2]) _ (by (try dsimp only) <;> simp only [Act.put, List.setIfInBounds_toArray, List.set_cons_zero, List.set_cons_succ]) (HJ.out.pureStep 1 _ HB.out (by rw [HS.out]; rfl) (by rw [HS.out]; rfl) (by rw [HS.out]; rfl) (by rw [HS.out]; rfl))
        refine StepsJ.cons ?_ ?_
        · intro b f w1 hb hw hJ K hK
          have HB := Lib.hid hb
          have HJ := Lib.hid hJ
          have HW := Lib.hid hw
          clear hJ hw hb
          try dsimp only
          have e0 : f 0 = .agg #[.bool xs, .slice xq1 xr1 xs1, .slice xq2 xr2 xs2] := HJ.out.pure 0 _ (by rw [HS.out]; rfl) (HW.out 0 (by decide))
          have e1 : f 1 = .agg #[.bool ys, .slice yq1 yr1 ys1, .slice yq2 yr2 ys2] := HJ.out.pure 1 _ (by rw [HS.out]; rfl) (HW.out 1 (by decide))
          simp only [e0, e1]
          rw [if_pos (by rfl)]
          go_simp
          go_at_call 27
          (with_reducible refine (C4.out _ _ _ (Vx_11.out.kp HJ.out.k) (Vy_11.out.kp HJ.out.k) (Z_11.out.kp HJ.out.k)).mono ?_)
          rintro e w2 ⟨vr, rfl, hr, kk⟩
          exact hK.out _ vr _ (by (try dsimp only) <;> simp only [Act.put, List.setIfInBounds_toArray, List.set_cons_zero, List.set_cons_succ, e0, e1]) (HJ.out.callStep 2 vr _ HB.out kk hr (by rw [HS.out]; rfl) (by rw [HS.out]; rfl) (by rw [HS.out]; rfl) (by rw [HS.out]; rfl))
        refine StepsJ.cons ?_ ?_
        · intro b f w1 hb hw hJ K hK
          have HB := Lib.hid hb
          have HJ := Lib.hid hJ
          have HW := Lib.hid hw
          clear hJ hw hb
          try dsimp only
          rw [if_pos (by rfl)]
          obtain ⟨zg0, zg1, zg2, _⟩ := (Bz_11.out.kp HJ.out.k).cells
          go_simp
          exact hK.out _ (.agg #[.bool zs, .slice zq1 zr1 zs1, .slice zq2 zr2 zs2]) _ (by (try dsimp only) <;> simp only [Act.put, List.setIfInBounds_toArray, List.set_cons_zero, List.set_cons_succ]) (HJ.out.pureStep 3 _ HB.out (by rw [HS.out]; rfl) (by rw [HS.out]; rfl) (by rw [HS.out]; rfl) (by rw [HS.out]; rfl))
        refine StepsJ.cons ?_ ?_
        · intro b f w1 hb hw hJ K hK
          have HB := Lib.hid hb
          have HJ := Lib.hid hJ
          have HW := Lib.hid hw
          clear hJ hw hb
          try dsimp only
          have e3 : f 3 = .agg #[.bool zs, .slice zq1 zr1 zs1, .slice zq2 zr2 zs2] := HJ.out.pure 3 _ (by rw [HS.out]; rfl) (HW.out 3 (by decide))
          simp only [e3]
          rw [if_pos (by rfl)]
          have a2 := HJ.out.call 2 _ (by rw [HS.out]; rfl) (HW.out 2 (by decide))
          have Ha2 := Lib.hid a2
          clear a2
          go_simp
          go_at_call 27
          (with_reducible refine (C5.out _ _ _ Ha2.out (Vz_11.out.kp HJ.out.k) (Z_11.out.kp HJ.out.k)).mono ?_)
          rintro e w2 ⟨vr, rfl, hr, kk⟩
          exact hK.out _ vr _ (by (try dsimp only) <;> simp only [Act.put, List.setIfInBounds_toArray, List.set_cons_zero, List.set_cons_succ, e3]) (HJ.out.callStep 4 vr _ HB.out kk hr (by rw [HS.out]; rfl) (by rw [HS.out]; rfl) (by rw [HS.out]; rfl) (by rw [HS.out]; rfl))
        refine StepsJ.cons ?_ ?_
        · intro b f w1 hb hw hJ K hK
          have HB := Lib.hid hb
          have HJ := Lib.hid hJ
          have HW := Lib.hid hw
          clear hJ hw hb
          try dsimp only
          rw [if_pos (by rfl)]
          obtain ⟨xg0, xg1, xg2, _⟩ := (Bx_11.out.kp HJ.out.k).cells
          go_simp
          exact hK.out _ (.agg #[.bool xs, .slice xq1 xr1 xs1, .slice xq2 xr2 xs2]) _ (by (try dsimp only) <;> simp only [Act.put, List.setIfInBounds_toArray, List.set_cons_zero, List.set_cons_succ]) (HJ.out.pureStep 5 _ HB.out (by rw [HS.out]; rfl) (by rw [HS.out]; rfl) (by rw [HS.out]; rfl) (by rw [HS.out]; rfl))
        refine StepsJ.cons ?_ ?_
        · intro b f w1 hb hw hJ K hK
          have HB := Lib.hid hb
          have HJ := Lib.hid hJ
          have HW := Lib.hid hw
          clear hJ hw hb
          try dsimp only
          rw [if_pos (by rfl)]
          obtain ⟨yg0, yg1, yg2, _⟩ := (By_11.out.kp HJ.out.k).cells
          go_simp
          exact hK.out _ (.agg #[.bool ys, .slice yq1 yr1 ys1, .slice yq2 yr2 ys2]) _ (by (try dsimp only) <;> simp only [Act.put, List.setIfInBounds_toArray, List.set_cons_zero, List.set_cons_succ]) (HJ.out.pureStep 6 _ HB.out (by rw [HS.out]; rfl) (by rw [HS.out]; rfl) (by rw [HS.out]; rfl) (by rw [HS.out]; rfl))
        refine StepsJ.cons ?_ ?_
        · intro b f w1 hb hw hJ K hK
          have HB := Lib.hid hb
          have HJ := Lib.hid hJ
          have HW := Lib.hid hw
          clear hJ hw hb
          try dsimp only
          rw [if_pos (by rfl)]
          obtain ⟨zg0, zg1, zg2, _⟩ := (Bz_11.out.kp HJ.out.k).cells
          go_simp
          exact hK.out _ (.agg #[.bool zs, .slice zq1 zr1 zs1, .slice zq2 zr2 zs2]) _ (by (try dsimp only) <;> simp only [Act.put, List.setIfInBounds_toArray, List.set_cons_zero, List.set_cons_succ]) (HJ.out.pureStep 7 _ HB.out (by rw [HS.out]; rfl) (by rw [HS.out]; rfl) (by rw [HS.out]; rfl) (by rw [HS.out]; rfl))
        refine StepsJ.cons ?_ ?_
        · intro b f w1 hb hw hJ K hK
          have HB := Lib.hid hb
          have HJ := Lib.hid hJ
          have HW := Lib.hid hw
          clear hJ hw hb
          try dsimp only
          have e6 : f 6 = .agg #[.bool ys, .slice yq1 yr1 ys1, .slice yq2 yr2 ys2] := HJ.out.pure 6 _ (by rw [HS.out]; rfl) (HW.out 6 (by decide))
          have e7 : f 7 = .agg #[.bool zs, .slice zq1 zr1 zs1, .slice zq2 zr2 zs2] := HJ.out.pure 7 _ (by rw [HS.out]; rfl) (HW.out 7 (by decide))
          simp only [e6, e7]
          rw [if_pos (by rfl)]
          go_simp
          go_at_call 27
          (with_reducible refine (C6.out _ _ _ (Vy_11.out.kp HJ.out.k) (Vz_11.out.kp HJ.out.k) (Z_11.out.kp HJ.out.k)).mono ?_)
          rintro e w2 ⟨vr, rfl, hr, kk⟩
          exact hK.out _ vr _ (by (try dsimp only) <;> simp only [Act.put, List.setIfInBounds_toArray, List.set_cons_zero, List.set_cons_succ, e6, e7]) (HJ.out.callStep 8 vr _ HB.out kk hr (by rw [HS.out]; rfl) (by rw [HS.out]; rfl) (by rw [HS.out]; rfl) (by rw [HS.out]; rfl))
        refine StepsJ.cons ?_ ?_
        · intro b f w1 hb hw hJ K hK
          have HB := Lib.hid hb
          have HJ := Lib.hid hJ
          have HW := Lib.hid hw
          clear hJ hw hb
          try dsimp only
          have e5 : f 5 = .agg #[.bool xs, .slice xq1 xr1 xs1, .slice xq2 xr2 xs2] := HJ.out.pure 5 _ (by rw [HS.out]; rfl) (HW.out 5 (by decide))
          simp only [e5]
          rw [if_pos (by rfl)]
          have a8 := HJ.out.call 8 _ (by rw [HS.out]; rfl) (HW.out 8 (by decide))
          have Ha8 := Lib.hid a8
          clear a8
          go_simp
          go_at_call 27
          (with_reducible refine (C7.out _ _ _ (Vx_11.out.kp HJ.out.k) Ha8.out (Z_11.out.kp HJ.out.k)).mono ?_)
          rintro e w2 ⟨vr, rfl, hr, kk⟩
          exact hK.out _ vr _ (by (try dsimp only) <;> simp only [Act.put, List.setIfInBounds_toArray, List.set_cons_zero, List.set_cons_succ, e5]) (HJ.out.callStep 9 vr _ HB.out kk hr (by rw [HS.out]; rfl) (by rw [HS.out]; rfl) (by rw [HS.out]; rfl) (by rw [HS.out]; rfl))
        refine StepsJ.cons ?_ ?_
        · intro b f w1 hb hw hJ K hK
          have HB := Lib.hid hb
          have HJ := Lib.hid hJ
          have HW := Lib.hid hw
          clear hJ hw hb
          try dsimp only
          rw [if_pos (by rfl)]
          have a4 := HJ.out.call 4 _ (by rw [HS.out]; rfl) (HW.out 4 (by decide))
          have a9 := HJ.out.call 9 _ (by rw [HS.out]; rfl) (HW.out 9 (by decide))
          have Ha4 := Lib.hid a4
          clear a4
          have Ha9 := Lib.hid a9
          clear a9
          go_simp
          go_at_call 33
          (with_reducible refine (C8.out _ _ _ Ha4.out Ha9.out).mono ?_)
          rintro e w2 ⟨rfl, kk⟩
          exact hK.out _ (.bool true) _ (by (try dsimp only) <;> simp only [Act.put, List.setIfInBounds_toArray, List.set_cons_zero, List.set_cons_succ]) ((HJ.out.later kk).pureStep 10 _ HB.out (by rw [HS.out]; rfl) (by rw [HS.out]; rfl) (by rw [HS.out]; rfl) (by rw [HS.out]; rfl))
        refine StepsJ.cons ?_ ?_
        · intro b f w1 hb hw hJ K hK
          have HB := Lib.hid hb
          have HJ := Lib.hid hJ
          have HW := Lib.hid hw
          clear hJ hw hb
          try dsimp only
          have e10 : f 10 = .bool true := HJ.out.pure 10 _ (by rw [HS.out]; rfl) (HW.out 10 (by decide))
          simp only [e10]
          rw [if_pos (by rfl)]
          go_simp
          exact hK.out _ (.bool true) _ (by (try dsimp only) <;> simp only [Act.put, List.setIfInBounds_toArray, List.set_cons_zero, List.set_cons_succ, e10]) (HJ.out.pureStep 11 _ HB.out (by rw [HS.out]; rfl) (by rw [HS.out]; rfl) (by rw [HS.out]; rfl) (by rw [HS.out]; rfl))
        refine StepsJ.cons ?_ ?_
        · intro b f w1 hb hw hJ K hK
          have HB := Lib.hid hb
          have HJ := Lib.hid hJ
          have HW := Lib.hid hw
          clear hJ hw hb
          try dsimp only
          have e11 : f 11 = .bool true := HJ.out.pure 11 _ (by rw [HS.out]; rfl) (HW.out 11 (by decide))
          simp only [e11]
          rw [if_pos (by rfl)]
          obtain ⟨xg0, xg1, xg2, _⟩ := (Bx_11.out.kp HJ.out.k).cells
          go_simp
          exact hK.out _ (.agg #[.bool xs, .slice xq1 xr1 xs1, .slice xq2 xr2 xs2]) _ (by (try dsimp only) <;> simp only [Act.put, List.setIfInBounds_toArray, List.set_cons_zero, List.set_cons_succ, e11]) (HJ.out.pureStep 12 _ HB.out (by rw [HS.out]; rfl) (by rw [HS.out]; rfl) (by rw [HS.out]; rfl) (by rw [HS.out]; rfl))
        refine StepsJ.cons ?_ ?_
        · intro b f w1 hb hw hJ K hK
          have HB := Lib.hid hb
          have HJ := Lib.hid hJ
          have HW := Lib.hid hw
          clear hJ hw hb
          try dsimp only
          have e11 : f 11 = .bool true := HJ.out.pure 11 _ (by rw [HS.out]; rfl) (HW.out 11 (by decide))
          simp only [e11]
          rw [if_pos (by rfl)]
          obtain ⟨yg0, yg1, yg2, _⟩ := (By_11.out.kp HJ.out.k).cells
          go_simp
          exact hK.out _ (.agg #[.bool ys, .slice yq1 yr1 ys1, .slice yq2 yr2 ys2]) _ (by (try dsimp only) <;> simp only [Act.put, List.setIfInBounds_toArray, List.set_cons_zero, List.set_cons_succ, e11]) (HJ.out.pureStep 13 _ HB.out (by rw [HS.out]; rfl) (by rw [HS.out]; rfl) (by rw [HS.out]; rfl) (by rw [HS.out]; rfl))
        refine StepsJ.cons ?_ ?_
        · intro b f w1 hb hw hJ K hK
          have HB := Lib.hid hb
          have HJ := Lib.hid hJ
          have HW := Lib.hid hw
          clear hJ hw hb
          try dsimp only
          have e11 : f 11 = .bool true := HJ.out.pure 11 _ (by rw [HS.out]; rfl) (HW.out 11 (by decide))
          have e12 : f 12 = .agg #[.bool xs, .slice xq1 xr1 xs1, .slice xq2 xr2 xs2] := HJ.out.pure 12 _ (by rw [HS.out]; rfl) (HW.out 12 (by decide))
          have e13 : f 13 = .agg #[.bool ys, .slice yq1 yr1 ys1, .slice yq2 yr2 ys2] := HJ.out.pure 13 _ (by rw [HS.out]; rfl) (HW.out 13 (by decide))
          simp only [e11, e12, e13]
          rw [if_pos (by rfl)]
          go_simp
          go_at_call 31
          (with_reducible refine (C9.out _ _ _ (Vx_11.out.kp HJ.out.k) (Vy_11.out.kp HJ.out.k) (Z_11.out.kp HJ.out.k)).mono ?_)
          rintro e w2 ⟨vr, rfl, hr, kk⟩
          exact hK.out _ vr _ (by (try dsimp only) <;> simp only [Act.put, List.setIfInBounds_toArray, List.set_cons_zero, List.set_cons_succ, e11, e12, e13]) (HJ.out.callStep 14 vr _ HB.out kk hr (by rw [HS.out]; rfl) (by rw [HS.out]; rfl) (by rw [HS.out]; rfl) (by rw [HS.out]; rfl))
        refine StepsJ.cons ?_ ?_
        · intro b f w1 hb hw hJ K hK
          have HB := Lib.hid hb
          have HJ := Lib.hid hJ
          have HW := Lib.hid hw
          clear hJ hw hb
          try dsimp only
          have e11 : f 11 = .bool true := HJ.out.pure 11 _ (by rw [HS.out]; rfl) (HW.out 11 (by decide))
          simp only [e11]
          rw [if_pos (by rfl)]
          obtain ⟨zg0, zg1, zg2, _⟩ := (Bz_11.out.kp HJ.out.k).cells
          go_simp
          exact hK.out _ (.agg #[.bool zs, .slice zq1 zr1 zs1, .slice zq2 zr2 zs2]) _ (by (try dsimp only) <;> simp only [Act.put, List.setIfInBounds_toArray, List.set_cons_zero, List.set_cons_succ, e11]) (HJ.out.pureStep 15 _ HB.out (by rw [HS.out]; rfl) (by rw [HS.out]; rfl) (by rw [HS.out]; rfl) (by rw [HS.out]; rfl))
        refine StepsJ.cons ?_ ?_
        · intro b f w1 hb hw hJ K hK
          have HB := Lib.hid hb
          have HJ := Lib.hid hJ
          have HW := Lib.hid hw
          clear hJ hw hb
          try dsimp only
          have e11 : f 11 = .bool true := HJ.out.pure 11 _ (by rw [HS.out]; rfl) (HW.out 11 (by decide))
          have e15 : f 15 = .agg #[.bool zs, .slice zq1 zr1 zs1, .slice zq2 zr2 zs2] := HJ.out.pure 15 _ (by rw [HS.out]; rfl) (HW.out 15 (by decide))
          simp only [e11, e15]
          rw [if_pos (by rfl)]
          have a14 := HJ.out.call 14 _ (by rw [HS.out]; rfl) (HW.out 14 (by decide))
          have Ha14 := Lib.hid a14
          clear a14
          go_simp
          go_at_call 31
          (with_reducible refine (C10.out _ _ _ Ha14.out (Vz_11.out.kp HJ.out.k) (Z_11.out.kp HJ.out.k)).mono ?_)
          rintro e w2 ⟨vr, rfl, hr, kk⟩
          exact hK.out _ vr _ (by (try dsimp only) <;> simp only [Act.put, List.setIfInBounds_toArray, List.set_cons_zero, List.set_cons_succ, e11, e15]) (HJ.out.callStep 16 vr _ HB.out kk hr (by rw [HS.out]; rfl) (by rw [HS.out]; rfl) (by rw [HS.out]; rfl) (by rw [HS.out]; rfl))
        refine StepsJ.cons ?_ ?_
        · intro b f w1 hb hw hJ K hK
          have HB := Lib.hid hb
          have HJ := Lib.hid hJ
          have HW := Lib.hid hw
          clear hJ hw hb
          try dsimp only
          have e11 : f 11 = .bool true := HJ.out.pure 11 _ (by rw [HS.out]; rfl) (HW.out 11 (by decide))
          simp only [e11]
          rw [if_pos (by rfl)]
          obtain ⟨xg0, xg1, xg2, _⟩ := (Bx_11.out.kp HJ.out.k).cells
          go_simp
          exact hK.out _ (.agg #[.bool xs, .slice xq1 xr1 xs1, .slice xq2 xr2 xs2]) _ (by (try dsimp only) <;> simp only [Act.put, List.setIfInBounds_toArray, List.set_cons_zero, List.set_cons_succ, e11]) (HJ.out.pureStep 17 _ HB.out (by rw [HS.out]; rfl) (by rw [HS.out]; rfl) (by rw [HS.out]; rfl) (by rw [HS.out]; rfl))
        refine StepsJ.cons ?_ ?_
        · intro b f w1 hb hw hJ K hK
          have HB := Lib.hid hb
          have HJ := Lib.hid hJ
          have HW := Lib.hid hw
          clear hJ hw hb
          try dsimp only
          have e11 : f 11 = .bool true := HJ.out.pure 11 _ (by rw [HS.out]; rfl) (HW.out 11 (by decide))
          simp only [e11]
          rw [if_pos (by rfl)]
          obtain ⟨yg0, yg1, yg2, _⟩ := (By_11.out.kp HJ.out.k).cells
          go_simp
          exact hK.out _ (.agg #[.bool ys, .slice yq1 yr1 ys1, .slice yq2 yr2 ys2]) _ (by (try dsimp only) <;> simp only [Act.put, List.setIfInBounds_toArray, List.set_cons_zero, List.set_cons_succ, e11]) (HJ.out.pureStep 18 _ HB.out (by rw [HS.out]; rfl) (by rw [HS.out]; rfl) (by rw [HS.out]; rfl) (by rw [HS.out]; rfl))
        refine StepsJ.cons ?_ ?_
        · intro b f w1 hb hw hJ K hK
          have HB := Lib.hid hb
          have HJ := Lib.hid hJ
          have HW := Lib.hid hw
          clear hJ hw hb
          try dsimp only
          have e11 : f 11 = .bool true := HJ.out.pure 11 _ (by rw [HS.out]; rfl) (HW.out 11 (by decide))
          simp only [e11]
          rw [if_pos (by rfl)]
          obtain ⟨zg0, zg1, zg2, _⟩ := (Bz_11.out.kp HJ.out.k).cells
          go_simp
          exact hK.out _ (.agg #[.bool zs, .slice zq1 zr1 zs1, .slice zq2 zr2 zs2]) _ (by (try dsimp only) <;> simp only [Act.put, List.setIfInBounds_toArray, List.set_cons_zero, List.set_cons_succ, e11]) (HJ.out.pureStep 19 _ HB.out (by rw [HS.out]; rfl) (by rw [HS.out]; rfl) (by rw [HS.out]; rfl) (by rw [HS.out]; rfl))
        refine StepsJ.cons ?_ ?_
        · intro b f w1 hb hw hJ K hK
          have HB := Lib.hid hb
          have HJ := Lib.hid hJ
          have HW := Lib.hid hw
          clear hJ hw hb
          try dsimp only
          have e11 : f 11 = .bool true := HJ.out.pure 11 _ (by rw [HS.out]; rfl) (HW.out 11 (by decide))
          have e18 : f 18 = .agg #[.bool ys, .slice yq1 yr1 ys1, .slice yq2 yr2 ys2] := HJ.out.pure 18 _ (by rw [HS.out]; rfl) (HW.out 18 (by decide))
          have e19 : f 19 = .agg #[.bool zs, .slice zq1 zr1 zs1, .slice zq2 zr2 zs2] := HJ.out.pure 19 _ (by rw [HS.out]; rfl) (HW.out 19 (by decide))
          simp only [e11, e18, e19]
          rw [if_pos (by rfl)]
          go_simp
          go_at_call 31
          (with_reducible refine (C11.out _ _ _ (Vy_11.out.kp HJ.out.k) (Vz_11.out.kp HJ.out.k) (Z_11.out.kp HJ.out.k)).mono ?_)
          rintro e w2 ⟨vr, rfl, hr, kk⟩
          exact hK.out _ vr _ (by (try dsimp only) <;> simp only [Act.put, List.setIfInBounds_toArray, List.set_cons_zero, List.set_cons_succ, e11, e18, e19]) (HJ.out.callStep 20 vr _ HB.out kk hr (by rw [HS.out]; rfl) (by rw [HS.out]; rfl) (by rw [HS.out]; rfl) (by rw [HS.out]; rfl))
        refine StepsJ.cons ?_ ?_
        · intro b f w1 hb hw hJ K hK
          have HB := Lib.hid hb
          have HJ := Lib.hid hJ
          have HW := Lib.hid hw
          clear hJ hw hb
          try dsimp only
          have e11 : f 11 = .bool true := HJ.out.pure 11 _ (by rw [HS.out]; rfl) (HW.out 11 (by decide))
          have e17 : f 17 = .agg #[.bool xs, .slice xq1 xr1 xs1, .slice xq2 xr2 xs2] := HJ.out.pure 17 _ (by rw [HS.out]; rfl) (HW.out 17 (by decide))
          simp only [e11, e17]
          rw [if_pos (by rfl)]
          have a20 := HJ.out.call 20 _ (by rw [HS.out]; rfl) (HW.out 20 (by decide))
          have Ha20 := Lib.hid a20
          clear a20
          go_simp
          go_at_call 31
          (with_reducible refine (C12.out _ _ _ (Vx_11.out.kp HJ.out.k) Ha20.out (Z_11.out.kp HJ.out.k)).mono ?_)
          rintro e w2 ⟨vr, rfl, hr, kk⟩
          exact hK.out _ vr _ (by (try dsimp only) <;> simp only [Act.put, List.setIfInBounds_toArray, List.set_cons_zero, List.set_cons_succ, e11, e17]) (HJ.out.callStep 21 vr _ HB.out kk hr (by rw [HS.out]; rfl) (by rw [HS.out]; rfl) (by rw [HS.out]; rfl) (by rw [HS.out]; rfl))
        refine StepsJ.cons ?_ ?_
        · intro b f w1 hb hw hJ K hK
          have HB := Lib.hid hb
          have HJ := Lib.hid hJ
          have HW := Lib.hid hw
          clear hJ hw hb
          try dsimp only
          have e11 : f 11 = .bool true := HJ.out.pure 11 _ (by rw [HS.out]; rfl) (HW.out 11 (by decide))
          simp only [e11]
          rw [if_pos (by rfl)]
          have a16 := HJ.out.call 16 _ (by rw [HS.out]; rfl) (HW.out 16 (by decide))
          have a21 := HJ.out.call 21 _ (by rw [HS.out]; rfl) (HW.out 21 (by decide))
          have Ha16 := Lib.hid a16
          clear a16
          have Ha21 := Lib.hid a21
          clear a21
          go_simp
          go_at_call 33
          (with_reducible refine (C13.out _ _ _ Ha16.out Ha21.out).mono ?_)
          rintro e w2 ⟨rfl, kk⟩
          exact hK.out _ (.bool true) _ (by (try dsimp only) <;> simp only [Act.put, List.setIfInBounds_toArray, List.set_cons_zero, List.set_cons_succ, e11]) ((HJ.out.later kk).pureStep 22 _ HB.out (by rw [HS.out]; rfl) (by rw [HS.out]; rfl) (by rw [HS.out]; rfl) (by rw [HS.out]; rfl))
        refine StepsJ.cons ?_ ?_
        · intro b f w1 hb hw hJ K hK
          have HB := Lib.hid hb
          have HJ := Lib.hid hJ
          have HW := Lib.hid hw
          clear hJ hw hb
          try dsimp only
          have e11 : f 11 = .bool true := HJ.out.pure 11 _ (by rw [HS.out]; rfl) (HW.out 11 (by decide))
          have e22 : f 22 = .bool true := HJ.out.pure 22 _ (by rw [HS.out]; rfl) (HW.out 22 (by decide))
          simp only [e11, e22]
          rw [if_pos (by rfl)]
          go_simp
          exact hK.out _ (.bool true) _ (by (try dsimp only) <;> simp only [Act.put, List.setIfInBounds_toArray, List.set_cons_zero, List.set_cons_succ, e11, e22]) (HJ.out.pureStep 23 _ HB.out (by rw [HS.out]; rfl) (by rw [HS.out]; rfl) (by rw [HS.out]; rfl) (by rw [HS.out]; rfl))
        refine StepsJ.cons ?_ ?_
        · intro b f w1 hb hw hJ K hK
          have HB := Lib.hid hb
          have HJ := Lib.hid hJ
          have HW := Lib.hid hw
          clear hJ hw hb
          try dsimp only
          have e23 : f 23 = .bool true := HJ.out.pure 23 _ (by rw [HS.out]; rfl) (HW.out 23 (by decide))
          simp only [e23]
          rw [if_pos (by rfl)]
          go_simp
          exact hK.out _ (.bool true) _ (by (try dsimp only) <;> simp only [Act.put, List.setIfInBounds_toArray, List.set_cons_zero, List.set_cons_succ, e23]) (HJ.out.pureStep 24 _ HB.out (by rw [HS.out]; rfl) (by rw [HS.out]; rfl) (by rw [HS.out]; rfl) (by rw [HS.out]; rfl))
        refine StepsJ.cons ?_ ?_
        · intro b f w1 hb hw hJ K hK
          have HB := Lib.hid hb
          have HJ := Lib.hid hJ
          have HW := Lib.hid hw
          clear hJ hw hb
          try dsimp only
          have e24 : f 24 = .bool true := HJ.out.pure 24 _ (by rw [HS.out]; rfl) (HW.out 24 (by decide))
          simp only [e24]
          rw [if_pos (by rfl)]
          obtain ⟨xg0, xg1, xg2, _⟩ := (Bx_11.out.kp HJ.out.k).cells
          go_simp
          exact hK.out _ (.agg #[.bool xs, .slice xq1 xr1 xs1, .slice xq2 xr2 xs2]) _ (by (try dsimp only) <;> simp only [Act.put, List.setIfInBounds_toArray, List.set_cons_zero, List.set_cons_succ, e24]) (HJ.out.pureStep 25 _ HB.out (by rw [HS.out]; rfl) (by rw [HS.out]; rfl) (by rw [HS.out]; rfl) (by rw [HS.out]; rfl))
        refine StepsJ.cons ?_ ?_
        · intro b f w1 hb hw hJ K hK
          have HB := Lib.hid hb
          have HJ := Lib.hid hJ
          have HW := Lib.hid hw
          clear hJ hw hb
          try dsimp only
          have e24 : f 24 = .bool true := HJ.out.pure 24 _ (by rw [HS.out]; rfl) (HW.out 24 (by decide))
          simp only [e24]
          rw [if_pos (by rfl)]
          obtain ⟨yg0, yg1, yg2, _⟩ := (By_11.out.kp HJ.out.k).cells
          go_simp
          exact hK.out _ (.agg #[.bool ys, .slice yq1 yr1 ys1, .slice yq2 yr2 ys2]) _ (by (try dsimp only) <;> simp only [Act.put, List.setIfInBounds_toArray, List.set_cons_zero, List.set_cons_succ, e24]) (HJ.out.pureStep 26 _ HB.out (by rw [HS.out]; rfl) (by rw [HS.out]; rfl) (by rw [HS.out]; rfl) (by rw [HS.out]; rfl))
        refine StepsJ.cons ?_ ?_
        · intro b f w1 hb hw hJ K hK
          have HB := Lib.hid hb
          have HJ := Lib.hid hJ
          have HW := Lib.hid hw
          clear hJ hw hb
          try dsimp only
          have e24 : f 24 = .bool true := HJ.out.pure 24 _ (by rw [HS.out]; rfl) (HW.out 24 (by decide))
          simp only [e24]
          rw [if_pos (by rfl)]
          obtain ⟨zg0, zg1, zg2, _⟩ := (Bz_11.out.kp HJ.out.k).cells
          go_simp
          exact hK.out _ (.agg #[.bool zs, .slice zq1 zr1 zs1, .slice zq2 zr2 zs2]) _ (by (try dsimp only) <;> simp only [Act.put, List.setIfInBounds_toArray, List.set_cons_zero, List.set_cons_succ, e24]) (HJ.out.pureStep 27 _ HB.out (by rw [HS.out]; rfl) (by rw [HS.out]; rfl) (by rw [HS.out]; rfl) (by rw [HS.out]; rfl))
        refine StepsJ.cons ?_ ?_
        · intro b f w1 hb hw hJ K hK
          have HB := Lib.hid hb
          have HJ := Lib.hid hJ
          have HW := Lib.hid hw
          clear hJ hw hb
          try dsimp only
          have e24 : f 24 = .bool true := HJ.out.pure 24 _ (by rw [HS.out]; rfl) (HW.out 24 (by decide))
          have e26 : f 26 = .agg #[.bool ys, .slice yq1 yr1 ys1, .slice yq2 yr2 ys2] := HJ.out.pure 26 _ (by rw [HS.out]; rfl) (HW.out 26 (by decide))
          have e27 : f 27 = .agg #[.bool zs, .slice zq1 zr1 zs1, .slice zq2 zr2 zs2] := HJ.out.pure 27 _ (by rw [HS.out]; rfl) (HW.out 27 (by decide))
          simp only [e24, e26, e27]
          rw [if_pos (by rfl)]
          go_simp
          go_at_call 27
          (with_reducible refine (C14.out _ _ _ (Vy_11.out.kp HJ.out.k) (Vz_11.out.kp HJ.out.k) (Z_11.out.kp HJ.out.k)).mono ?_)
          rintro e w2 ⟨vr, rfl, hr, kk⟩
          exact hK.out _ vr _ (by (try dsimp only) <;> simp only [Act.put, List.setIfInBounds_toArray, List.set_cons_zero, List.set_cons_succ, e24, e26, e27]) (HJ.out.callStep 28 vr _ HB.out kk hr (by rw [HS.out]; rfl) (by rw [HS.out]; rfl) (by rw [HS.out]; rfl) (by rw [HS.out]; rfl))
        refine StepsJ.cons ?_ ?_
        · intro b f w1 hb hw hJ K hK
          have HB := Lib.hid hb
          have HJ := Lib.hid hJ
          have HW := Lib.hid hw
          clear hJ hw hb
          try dsimp only
          have e24 : f 24 = .bool true := HJ.out.pure 24 _ (by rw [HS.out]; rfl) (HW.out 24 (by decide))
          have e25 : f 25 = .agg #[.bool xs, .slice xq1 xr1 xs1, .slice xq2 xr2 xs2] := HJ.out.pure 25 _ (by rw [HS.out]; rfl) (HW.out 25 (by decide))
          simp only [e24, e25]
          rw [if_pos (by rfl)]
          have a28 := HJ.out.call 28 _ (by rw [HS.out]; rfl) (HW.out 28 (by decide))
          have Ha28 := Lib.hid a28
          clear a28
          go_simp
          go_at_call 31
          (with_reducible refine (C15.out _ _ _ (Vx_11.out.kp HJ.out.k) Ha28.out (Z_11.out.kp HJ.out.k)).mono ?_)
          rintro e w2 ⟨vr, rfl, hr, kk⟩
          exact hK.out _ vr _ (by (try dsimp only) <;> simp only [Act.put, List.setIfInBounds_toArray, List.set_cons_zero, List.set_cons_succ, e24, e25]) (HJ.out.callStep 29 vr _ HB.out kk hr (by rw [HS.out]; rfl) (by rw [HS.out]; rfl) (by rw [HS.out]; rfl) (by rw [HS.out]; rfl))
        refine StepsJ.cons ?_ ?_
        · intro b f w1 hb hw hJ K hK
          have HB := Lib.hid hb
          have HJ := Lib.hid hJ
          have HW := Lib.hid hw
          clear hJ hw hb
          try dsimp only
          have e24 : f 24 = .bool true := HJ.out.pure 24 _ (by rw [HS.out]; rfl) (HW.out 24 (by decide))
          simp only [e24]
          rw [if_pos (by rfl)]
          obtain ⟨xg0, xg1, xg2, _⟩ := (Bx_11.out.kp HJ.out.k).cells
          go_simp
          exact hK.out _ (.agg #[.bool xs, .slice xq1 xr1 xs1, .slice xq2 xr2 xs2]) _ (by (try dsimp only) <;> simp only [Act.put, List.setIfInBounds_toArray, List.set_cons_zero, List.set_cons_succ, e24]) (HJ.out.pureStep 30 _ HB.out (by rw [HS.out]; rfl) (by rw [HS.out]; rfl) (by rw [HS.out]; rfl) (by rw [HS.out]; rfl))
        refine StepsJ.cons ?_ ?_
        · intro b f w1 hb hw hJ K hK
          have HB := Lib.hid hb
          have HJ := Lib.hid hJ
          have HW := Lib.hid hw
          clear hJ hw hb
          try dsimp only
          have e24 : f 24 = .bool true := HJ.out.pure 24 _ (by rw [HS.out]; rfl) (HW.out 24 (by decide))
          simp only [e24]
          rw [if_pos (by rfl)]
          obtain ⟨yg0, yg1, yg2, _⟩ := (By_11.out.kp HJ.out.k).cells
          go_simp
          exact hK.out _ (.agg #[.bool ys, .slice yq1 yr1 ys1, .slice yq2 yr2 ys2]) _ (by (try dsimp only) <;> simp only [Act.put, List.setIfInBounds_toArray, List.set_cons_zero, List.set_cons_succ, e24]) (HJ.out.pureStep 31 _ HB.out (by rw [HS.out]; rfl) (by rw [HS.out]; rfl) (by rw [HS.out]; rfl) (by rw [HS.out]; rfl))
        refine StepsJ.cons ?_ ?_
        · intro b f w1 hb hw hJ K hK
          have HB := Lib.hid hb
          have HJ := Lib.hid hJ
          have HW := Lib.hid hw
          clear hJ hw hb
          try dsimp only
          have e24 : f 24 = .bool true := HJ.out.pure 24 _ (by rw [HS.out]; rfl) (HW.out 24 (by decide))
          have e30 : f 30 = .agg #[.bool xs, .slice xq1 xr1 xs1, .slice xq2 xr2 xs2] := HJ.out.pure 30 _ (by rw [HS.out]; rfl) (HW.out 30 (by decide))
          have e31 : f 31 = .agg #[.bool ys, .slice yq1 yr1 ys1, .slice yq2 yr2 ys2] := HJ.out.pure 31 _ (by rw [HS.out]; rfl) (HW.out 31 (by decide))
          simp only [e24, e30, e31]
          rw [if_pos (by rfl)]
          go_simp
          go_at_call 31
          (with_reducible refine (C16.out _ _ _ (Vx_11.out.kp HJ.out.k) (Vy_11.out.kp HJ.out.k) (Z_11.out.kp HJ.out.k)).mono ?_)
          rintro e w2 ⟨vr, rfl, hr, kk⟩
          exact hK.out _ vr _ (by (try dsimp only) <;> simp only [Act.put, List.setIfInBounds_toArray, List.set_cons_zero, List.set_cons_succ, e24, e30, e31]) (HJ.out.callStep 32 vr _ HB.out kk hr (by rw [HS.out]; rfl) (by rw [HS.out]; rfl) (by rw [HS.out]; rfl) (by rw [HS.out]; rfl))
        refine StepsJ.cons ?_ ?_
        · intro b f w1 hb hw hJ K hK
          have HB := Lib.hid hb
          have HJ := Lib.hid hJ
          have HW := Lib.hid hw
          clear hJ hw hb
          try dsimp only
          have e24 : f 24 = .bool true := HJ.out.pure 24 _ (by rw [HS.out]; rfl) (HW.out 24 (by decide))
          simp only [e24]
          rw [if_pos (by rfl)]
          obtain ⟨xg0, xg1, xg2, _⟩ := (Bx_11.out.kp HJ.out.k).cells
          go_simp
          exact hK.out _ (.agg #[.bool xs, .slice xq1 xr1 xs1, .slice xq2 xr2 xs2]) _ (by (try dsimp only) <;> simp only [Act.put, List.setIfInBounds_toArray, List.set_cons_zero, List.set_cons_succ, e24]) (HJ.out.pureStep 33 _ HB.out (by rw [HS.out]; rfl) (by rw [HS.out]; rfl) (by rw [HS.out]; rfl) (by rw [HS.out]; rfl))
        refine StepsJ.cons ?_ ?_
        · intro b f w1 hb hw hJ K hK
          have HB := Lib.hid hb
          have HJ := Lib.hid hJ
          have HW := Lib.hid hw
          clear hJ hw hb
          try dsimp only
          have e24 : f 24 = .bool true := HJ.out.pure 24 _ (by rw [HS.out]; rfl) (HW.out 24 (by decide))
          simp only [e24]
          rw [if_pos (by rfl)]
          obtain ⟨zg0, zg1, zg2, _⟩ := (Bz_11.out.kp HJ.out.k).cells
          go_simp
          exact hK.out _ (.agg #[.bool zs, .slice zq1 zr1 zs1, .slice zq2 zr2 zs2]) _ (by (try dsimp only) <;> simp only [Act.put, List.setIfInBounds_toArray, List.set_cons_zero, List.set_cons_succ, e24]) (HJ.out.pureStep 34 _ HB.out (by rw [HS.out]; rfl) (by rw [HS.out]; rfl) (by rw [HS.out]; rfl) (by rw [HS.out]; rfl))
        refine StepsJ.cons ?_ ?_
        · intro b f w1 hb hw hJ K hK
          have HB := Lib.hid hb
          have HJ := Lib.hid hJ
          have HW := Lib.hid hw
          clear hJ hw hb
          try dsimp only
          have e24 : f 24 = .bool true := HJ.out.pure 24 _ (by rw [HS.out]; rfl) (HW.out 24 (by decide))
          have e33 : f 33 = .agg #[.bool xs, .slice xq1 xr1 xs1, .slice xq2 xr2 xs2] := HJ.out.pure 33 _ (by rw [HS.out]; rfl) (HW.out 33 (by decide))
          have e34 : f 34 = .agg #[.bool zs, .slice zq1 zr1 zs1, .slice zq2 zr2 zs2] := HJ.out.pure 34 _ (by rw [HS.out]; rfl) (HW.out 34 (by decide))
          simp only [e24, e33, e34]
          rw [if_pos (by rfl)]
          go_simp
          go_at_call 31
          (with_reducible refine (C17.out _ _ _ (Vx_11.out.kp HJ.out.k) (Vz_11.out.kp HJ.out.k) (Z_11.out.kp HJ.out.k)).mono ?_)
          rintro e w2 ⟨vr, rfl, hr, kk⟩
          exact hK.out _ vr _ (by (try dsimp only) <;> simp only [Act.put, List.setIfInBounds_toArray, List.set_cons_zero, List.set_cons_succ, e24, e33, e34]) (HJ.out.callStep 35 vr _ HB.out kk hr (by rw [HS.out]; rfl) (by rw [HS.out]; rfl) (by rw [HS.out]; rfl) (by rw [HS.out]; rfl))
        refine StepsJ.cons ?_ ?_
        · intro b f w1 hb hw hJ K hK
          have HB := Lib.hid hb
          have HJ := Lib.hid hJ
          have HW := Lib.hid hw
          clear hJ hw hb
          try dsimp only
          have e24 : f 24 = .bool true := HJ.out.pure 24 _ (by rw [HS.out]; rfl) (HW.out 24 (by decide))
          simp only [e24]
          rw [if_pos (by rfl)]
          have a32 := HJ.out.call 32 _ (by rw [HS.out]; rfl) (HW.out 32 (by decide))
          have a35 := HJ.out.call 35 _ (by rw [HS.out]; rfl) (HW.out 35 (by decide))
          have Ha32 := Lib.hid a32
          clear a32
          have Ha35 := Lib.hid a35
          clear a35
          go_simp
          go_at_call 27
          (with_reducible refine (C18.out _ _ _ Ha32.out Ha35.out (Z_11.out.kp HJ.out.k)).mono ?_)
          rintro e w2 ⟨vr, rfl, hr, kk⟩
          exact hK.out _ vr _ (by (try dsimp only) <;> simp only [Act.put, List.setIfInBounds_toArray, List.set_cons_zero, List.set_cons_succ, e24]) (HJ.out.callStep 36 vr _ HB.out kk hr (by rw [HS.out]; rfl) (by rw [HS.out]; rfl) (by rw [HS.out]; rfl) (by rw [HS.out]; rfl))
        refine StepsJ.cons ?_ ?_
        · intro b f w1 hb hw hJ K hK
          have HB := Lib.hid hb
          have HJ := Lib.hid hJ
          have HW := Lib.hid hw
          clear hJ hw hb
          try dsimp only
          have e24 : f 24 = .bool true := HJ.out.pure 24 _ (by rw [HS.out]; rfl) (HW.out 24 (by decide))
          simp only [e24]
          rw [if_pos (by rfl)]
          have a29 := HJ.out.call 29 _ (by rw [HS.out]; rfl) (HW.out 29 (by decide))
          have a36 := HJ.out.call 36 _ (by rw [HS.out]; rfl) (HW.out 36 (by decide))
          have Ha29 := Lib.hid a29
          clear a29
          have Ha36 := Lib.hid a36
          clear a36
          go_simp
          go_at_call 33
          (with_reducible refine (C19.out _ _ _ Ha29.out Ha36.out).mono ?_)
          rintro e w2 ⟨rfl, kk⟩
          exact hK.out _ (.bool true) _ (by (try dsimp only) <;> simp only [Act.put, List.setIfInBounds_toArray, List.set_cons_zero, List.set_cons_succ, e24]) ((HJ.out.later kk).pureStep 37 _ HB.out (by rw [HS.out]; rfl) (by rw [HS.out]; rfl) (by rw [HS.out]; rfl) (by rw [HS.out]; rfl))
        refine StepsJ.cons ?_ ?_
        · intro b f w1 hb hw hJ K hK
          have HB := Lib.hid hb
          have HJ := Lib.hid hJ
          have HW := Lib.hid hw
          clear hJ hw hb
          try dsimp only
          have e24 : f 24 = .bool true := HJ.out.pure 24 _ (by rw [HS.out]; rfl) (HW.out 24 (by decide))
          have e37 : f 37 = .bool true := HJ.out.pure 37 _ (by rw [HS.out]; rfl) (HW.out 37 (by decide))
          simp only [e24, e37]
          rw [if_pos (by rfl)]
          go_simp
          exact hK.out _ (.bool true) _ (by (try dsimp only) <;> simp only [Act.put, List.setIfInBounds_toArray, List.set_cons_zero, List.set_cons_succ, e24, e37]) (HJ.out.pureStep 38 _ HB.out (by rw [HS.out]; rfl) (by rw [HS.out]; rfl) (by rw [HS.out]; rfl) (by rw [HS.out]; rfl))
        refine StepsJ.cons ?_ ?_
        · intro b f w1 hb hw hJ K hK
          have HB := Lib.hid hb
          have HJ := Lib.hid hJ
          have HW := Lib.hid hw
          clear hJ hw hb
          try dsimp only
          have e38 : f 38 = .bool true := HJ.out.pure 38 _ (by rw [HS.out]; rfl) (HW.out 38 (by decide))
          simp only [e38]
          rw [if_pos (by rfl)]
          go_simp
          exact hK.out _ (.bool true) _ (by (try dsimp only) <;> simp only [Act.put, List.setIfInBounds_toArray, List.set_cons_zero, List.set_cons_succ, e38]) (HJ.out.pureStep 39 _ HB.out (by rw [HS.out]; rfl) (by rw [HS.out]; rfl) (by rw [HS.out]; rfl) (by rw [HS.out]; rfl))
        refine StepsJ.cons ?_ ?_
        · intro b f w1 hb hw hJ K hK
          have HB := Lib.hid hb
          have HJ := Lib.hid hJ
          have HW := Lib.hid hw
          clear hJ hw hb
          try dsimp only
          have e39 : f 39 = .bool true := HJ.out.pure 39 _ (by rw [HS.out]; rfl) (HW.out 39 (by decide))
          simp only [e39]
          rw [if_pos (by rfl)]
          obtain ⟨xg0, xg1, xg2, _⟩ := (Bx_11.out.kp HJ.out.k).cells
          go_simp
          exact hK.out _ (.agg #[.bool xs, .slice xq1 xr1 xs1, .slice xq2 xr2 xs2]) _ (by (try dsimp only) <;> simp only [Act.put, List.setIfInBounds_toArray, List.set_cons_zero, List.set_cons_succ, e39]) (HJ.out.pureStep 40 _ HB.out (by rw [HS.out]; rfl) (by rw [HS.out]; rfl) (by rw [HS.out]; rfl) (by rw [HS.out]; rfl))
        refine StepsJ.cons ?_ ?_
        · intro b f w1 hb hw hJ K hK
          have HB := Lib.hid hb
          have HJ := Lib.hid hJ
          have HW := Lib.hid hw
          clear hJ hw hb
          try dsimp only
          have e39 : f 39 = .bool true := HJ.out.pure 39 _ (by rw [HS.out]; rfl) (HW.out 39 (by decide))
          simp only [e39]
          rw [if_pos (by rfl)]
          obtain ⟨yg0, yg1, yg2, _⟩ := (By_11.out.kp HJ.out.k).cells
          go_simp
          exact hK.out _ (.agg #[.bool ys, .slice yq1 yr1 ys1, .slice yq2 yr2 ys2]) _ (by (try dsimp only) <;> simp only [Act.put, List.setIfInBounds_toArray, List.set_cons_zero, List.set_cons_succ, e39]) (HJ.out.pureStep 41 _ HB.out (by rw [HS.out]; rfl) (by rw [HS.out]; rfl) (by rw [HS.out]; rfl) (by rw [HS.out]; rfl))
        refine StepsJ.cons ?_ ?_
        · intro b f w1 hb hw hJ K hK
          have HB := Lib.hid hb
          have HJ := Lib.hid hJ
          have HW := Lib.hid hw
          clear hJ hw hb
          try dsimp only
          have e39 : f 39 = .bool true := HJ.out.pure 39 _ (by rw [HS.out]; rfl) (HW.out 39 (by decide))
          have e40 : f 40 = .agg #[.bool xs, .slice xq1 xr1 xs1, .slice xq2 xr2 xs2] := HJ.out.pure 40 _ (by rw [HS.out]; rfl) (HW.out 40 (by decide))
          have e41 : f 41 = .agg #[.bool ys, .slice yq1 yr1 ys1, .slice yq2 yr2 ys2] := HJ.out.pure 41 _ (by rw [HS.out]; rfl) (HW.out 41 (by decide))
          simp only [e39, e40, e41]
          rw [if_pos (by rfl)]
          go_simp
          go_at_call 27
          (with_reducible refine (C20.out _ _ _ (Vx_11.out.kp HJ.out.k) (Vy_11.out.kp HJ.out.k) (Z_11.out.kp HJ.out.k)).mono ?_)
          rintro e w2 ⟨vr, rfl, hr, kk⟩
          exact hK.out _ vr _ (by (try dsimp only) <;> simp only [Act.put, List.setIfInBounds_toArray, List.set_cons_zero, List.set_cons_succ, e39, e40, e41]) (HJ.out.callStep 42 vr _ HB.out kk hr (by rw [HS.out]; rfl) (by rw [HS.out]; rfl) (by rw [HS.out]; rfl) (by rw [HS.out]; rfl))
        refine StepsJ.cons ?_ ?_
        · intro b f w1 hb hw hJ K hK
          have HB := Lib.hid hb
          have HJ := Lib.hid hJ
          have HW := Lib.hid hw
          clear hJ hw hb
          try dsimp only
          have e39 : f 39 = .bool true := HJ.out.pure 39 _ (by rw [HS.out]; rfl) (HW.out 39 (by decide))
          simp only [e39]
          rw [if_pos (by rfl)]
          obtain ⟨yg0, yg1, yg2, _⟩ := (By_11.out.kp HJ.out.k).cells
          go_simp
          exact hK.out _ (.agg #[.bool ys, .slice yq1 yr1 ys1, .slice yq2 yr2 ys2]) _ (by (try dsimp only) <;> simp only [Act.put, List.setIfInBounds_toArray, List.set_cons_zero, List.set_cons_succ, e39]) (HJ.out.pureStep 43 _ HB.out (by rw [HS.out]; rfl) (by rw [HS.out]; rfl) (by rw [HS.out]; rfl) (by rw [HS.out]; rfl))
        refine StepsJ.cons ?_ ?_
        · intro b f w1 hb hw hJ K hK
          have HB := Lib.hid hb
          have HJ := Lib.hid hJ
          have HW := Lib.hid hw
          clear hJ hw hb
          try dsimp only
          have e39 : f 39 = .bool true := HJ.out.pure 39 _ (by rw [HS.out]; rfl) (HW.out 39 (by decide))
          have e43 : f 43 = .agg #[.bool ys, .slice yq1 yr1 ys1, .slice yq2 yr2 ys2] := HJ.out.pure 43 _ (by rw [HS.out]; rfl) (HW.out 43 (by decide))
          simp only [e39, e43]
          rw [if_pos (by rfl)]
          have a42 := HJ.out.call 42 _ (by rw [HS.out]; rfl) (HW.out 42 (by decide))
          have Ha42 := Lib.hid a42
          clear a42
          go_simp
          go_at_call 29
          (with_reducible refine (C21.out _ _ _ Ha42.out (Vy_11.out.kp HJ.out.k) (Z_11.out.kp HJ.out.k)).mono ?_)
          rintro e w2 ⟨vr, rfl, hr, kk⟩
          exact hK.out _ vr _ (by (try dsimp only) <;> simp only [Act.put, List.setIfInBounds_toArray, List.set_cons_zero, List.set_cons_succ, e39, e43]) (HJ.out.callStep 44 vr _ HB.out kk hr (by rw [HS.out]; rfl) (by rw [HS.out]; rfl) (by rw [HS.out]; rfl) (by rw [HS.out]; rfl))
        refine StepsJ.cons ?_ ?_
        · intro b f w1 hb hw hJ K hK
          have HB := Lib.hid hb
          have HJ := Lib.hid hJ
          have HW := Lib.hid hw
          clear hJ hw hb
          try dsimp only
          have e39 : f 39 = .bool true := HJ.out.pure 39 _ (by rw [HS.out]; rfl) (HW.out 39 (by decide))
          simp only [e39]
          rw [if_pos (by rfl)]
          obtain ⟨xg0, xg1, xg2, _⟩ := (Bx_11.out.kp HJ.out.k).cells
          go_simp
          exact hK.out _ (.agg #[.bool xs, .slice xq1 xr1 xs1, .slice xq2 xr2 xs2]) _ (by (try dsimp only) <;> simp only [Act.put, List.setIfInBounds_toArray, List.set_cons_zero, List.set_cons_succ, e39]) (HJ.out.pureStep 45 _ HB.out (by rw [HS.out]; rfl) (by rw [HS.out]; rfl) (by rw [HS.out]; rfl) (by rw [HS.out]; rfl))
        refine StepsJ.cons ?_ ?_
        · intro b f w1 hb hw hJ K hK
          have HB := Lib.hid hb
          have HJ := Lib.hid hJ
          have HW := Lib.hid hw
          clear hJ hw hb
          try dsimp only
          have e39 : f 39 = .bool true := HJ.out.pure 39 _ (by rw [HS.out]; rfl) (HW.out 39 (by decide))
          have e45 : f 45 = .agg #[.bool xs, .slice xq1 xr1 xs1, .slice xq2 xr2 xs2] := HJ.out.pure 45 _ (by rw [HS.out]; rfl) (HW.out 45 (by decide))
          simp only [e39, e45]
          rw [if_pos (by rfl)]
          have a44 := HJ.out.call 44 _ (by rw [HS.out]; rfl) (HW.out 44 (by decide))
          have Ha44 := Lib.hid a44
          clear a44
          go_simp
          go_at_call 33
          (with_reducible refine (C22.out _ _ _ Ha44.out (Vx_11.out.kp HJ.out.k)).mono ?_)
          rintro e w2 ⟨rfl, kk⟩
          exact hK.out _ (.bool true) _ (by (try dsimp only) <;> simp only [Act.put, List.setIfInBounds_toArray, List.set_cons_zero, List.set_cons_succ, e39, e45]) ((HJ.out.later kk).pureStep 46 _ HB.out (by rw [HS.out]; rfl) (by rw [HS.out]; rfl) (by rw [HS.out]; rfl) (by rw [HS.out]; rfl))
        refine StepsJ.cons ?_ ?_
        · intro b f w1 hb hw hJ K hK
          have HB := Lib.hid hb
          have HJ := Lib.hid hJ
          have HW := Lib.hid hw
          clear hJ hw hb
          try dsimp only
          have e39 : f 39 = .bool true := HJ.out.pure 39 _ (by rw [HS.out]; rfl) (HW.out 39 (by decide))
          have e46 : f 46 = .bool true := HJ.out.pure 46 _ (by rw [HS.out]; rfl) (HW.out 46 (by decide))
          simp only [e39, e46]
          rw [if_pos (by rfl)]
          go_simp
          exact hK.out _ (.bool true) _ (by (try dsimp only) <;> simp only [Act.put, List.setIfInBounds_toArray, List.set_cons_zero, List.set_cons_succ, e39, e46]) (HJ.out.pureStep 47 _ HB.out (by rw [HS.out]; rfl) (by rw [HS.out]; rfl) (by rw [HS.out]; rfl) (by rw [HS.out]; rfl))
        refine StepsJ.cons ?_ ?_
        · intro b f w1 hb hw hJ K hK
          have HB := Lib.hid hb
          have HJ := Lib.hid hJ
          have HW := Lib.hid hw
          clear hJ hw hb
          try dsimp only
          have e47 : f 47 = .bool true := HJ.out.pure 47 _ (by rw [HS.out]; rfl) (HW.out 47 (by decide))
          simp only [e47]
          rw [if_pos (by rfl)]
          go_simp
          exact hK.out _ (.bool true) _ (by (try dsimp only) <;> simp only [Act.put, List.setIfInBounds_toArray, List.set_cons_zero, List.set_cons_succ, e47]) (HJ.out.pureStep 48 _ HB.out (by rw [HS.out]; rfl) (by rw [HS.out]; rfl) (by rw [HS.out]; rfl) (by rw [HS.out]; rfl))
        refine StepsJ.cons ?_ ?_
        · intro b f w1 hb hw hJ K hK
          have HB := Lib.hid hb
          have HJ := Lib.hid hJ
          have HW := Lib.hid hw
          clear hJ hw hb
          try dsimp only
          have e48 : f 48 = .bool true := HJ.out.pure 48 _ (by rw [HS.out]; rfl) (HW.out 48 (by decide))
          simp only [e48]
          rw [if_pos (by rfl)]
          obtain ⟨xg0, xg1, xg2, _⟩ := (Bx_11.out.kp HJ.out.k).cells
          go_simp
          exact hK.out _ (.agg #[.bool xs, .slice xq1 xr1 xs1, .slice xq2 xr2 xs2]) _ (by (try dsimp only) <;> simp only [Act.put, List.setIfInBounds_toArray, List.set_cons_zero, List.set_cons_succ, e48]) (HJ.out.pureStep 49 _ HB.out (by rw [HS.out]; rfl) (by rw [HS.out]; rfl) (by rw [HS.out]; rfl) (by rw [HS.out]; rfl))
        refine StepsJ.cons ?_ ?_
        · intro b f w1 hb hw hJ K hK
          have HB := Lib.hid hb
          have HJ := Lib.hid hJ
          have HW := Lib.hid hw
          clear hJ hw hb
          try dsimp only
          have e48 : f 48 = .bool true := HJ.out.pure 48 _ (by rw [HS.out]; rfl) (HW.out 48 (by decide))
          simp only [e48]
          rw [if_pos (by rfl)]
          obtain ⟨yg0, yg1, yg2, _⟩ := (By_11.out.kp HJ.out.k).cells
          go_simp
          exact hK.out _ (.agg #[.bool ys, .slice yq1 yr1 ys1, .slice yq2 yr2 ys2]) _ (by (try dsimp only) <;> simp only [Act.put, List.setIfInBounds_toArray, List.set_cons_zero, List.set_cons_succ, e48]) (HJ.out.pureStep 50 _ HB.out (by rw [HS.out]; rfl) (by rw [HS.out]; rfl) (by rw [HS.out]; rfl) (by rw [HS.out]; rfl))
        refine StepsJ.cons ?_ ?_
        · intro b f w1 hb hw hJ K hK
          have HB := Lib.hid hb
          have HJ := Lib.hid hJ
          have HW := Lib.hid hw
          clear hJ hw hb
          try dsimp only
          have e48 : f 48 = .bool true := HJ.out.pure 48 _ (by rw [HS.out]; rfl) (HW.out 48 (by decide))
          have e49 : f 49 = .agg #[.bool xs, .slice xq1 xr1 xs1, .slice xq2 xr2 xs2] := HJ.out.pure 49 _ (by rw [HS.out]; rfl) (HW.out 49 (by decide))
          have e50 : f 50 = .agg #[.bool ys, .slice yq1 yr1 ys1, .slice yq2 yr2 ys2] := HJ.out.pure 50 _ (by rw [HS.out]; rfl) (HW.out 50 (by decide))
          simp only [e48, e49, e50]
          rw [if_pos (by rfl)]
          go_simp
          go_at_call 27
          (with_reducible refine (C23.out _ _ _ (Vx_11.out.kp HJ.out.k) (Vy_11.out.kp HJ.out.k) (Z_11.out.kp HJ.out.k)).mono ?_)
          rintro e w2 ⟨vr, rfl, hr, kk⟩
          exact hK.out _ vr _ (by (try dsimp only) <;> simp only [Act.put, List.setIfInBounds_toArray, List.set_cons_zero, List.set_cons_succ, e48, e49, e50]) (HJ.out.callStep 51 vr _ HB.out kk hr (by rw [HS.out]; rfl) (by rw [HS.out]; rfl) (by rw [HS.out]; rfl) (by rw [HS.out]; rfl))
        refine StepsJ.cons ?_ ?_
        · intro b f w1 hb hw hJ K hK
          have HB := Lib.hid hb
          have HJ := Lib.hid hJ
          have HW := Lib.hid hw
          clear hJ hw hb
          try dsimp only
          have e48 : f 48 = .bool true := HJ.out.pure 48 _ (by rw [HS.out]; rfl) (HW.out 48 (by decide))
          simp only [e48]
          rw [if_pos (by rfl)]
          have a51 := HJ.out.call 51 _ (by rw [HS.out]; rfl) (HW.out 51 (by decide))
          have Ha51 := Lib.hid a51
          clear a51
          go_simp
          go_at_call 17
          (with_reducible refine (C24.out _ _ Ha51.out (Z_11.out.kp HJ.out.k)).mono ?_)
          rintro e w2 ⟨rfl, kk⟩
          exact hK.out _ (.bool true) _ (by (try dsimp only) <;> simp only [Act.put, List.setIfInBounds_toArray, List.set_cons_zero, List.set_cons_succ, e48]) ((HJ.out.later kk).pureStep 52 _ HB.out (by rw [HS.out]; rfl) (by rw [HS.out]; rfl) (by rw [HS.out]; rfl) (by rw [HS.out]; rfl))
        refine StepsJ.cons ?_ ?_
        · intro b f w1 hb hw hJ K hK
          have HB := Lib.hid hb
          have HJ := Lib.hid hJ
          have HW := Lib.hid hw
          clear hJ hw hb
          try dsimp only
          have e48 : f 48 = .bool true := HJ.out.pure 48 _ (by rw [HS.out]; rfl) (HW.out 48 (by decide))
          have e52 : f 52 = .bool true := HJ.out.pure 52 _ (by rw [HS.out]; rfl) (HW.out 52 (by decide))
          simp only [e48, e52]
          rw [if_pos (by rfl)]
          go_simp
          exact hK.out _ (.bool true) _ (by (try dsimp only) <;> simp only [Act.put, List.setIfInBounds_toArray, List.set_cons_zero, List.set_cons_succ, e48, e52]) (HJ.out.pureStep 53 _ HB.out (by rw [HS.out]; rfl) (by rw [HS.out]; rfl) (by rw [HS.out]; rfl) (by rw [HS.out]; rfl))
        refine StepsJ.cons ?_ ?_
        · intro b f w1 hb hw hJ K hK
          have HB := Lib.hid hb
          have HJ := Lib.hid hJ
          have HW := Lib.hid hw
          clear hJ hw hb
          try dsimp only
          have e53 : f 53 = .bool true := HJ.out.pure 53 _ (by rw [HS.out]; rfl) (HW.out 53 (by decide))
          simp only [e53]
          rw [if_pos (by rfl)]
          go_simp
          exact hK.out _ (.bool true) _ (by (try dsimp only) <;> simp only [Act.put, List.setIfInBounds_toArray, List.set_cons_zero, List.set_cons_succ, e53]) (HJ.out.pureStep 54 _ HB.out (by rw [HS.out]; rfl) (by rw [HS.out]; rfl) (by rw [HS.out]; rfl) (by rw [HS.out]; rfl))
        refine StepsJ.cons ?_ ?_
        · intro b f w1 hb hw hJ K hK
          have HB := Lib.hid hb
          have HJ := Lib.hid hJ
          have HW := Lib.hid hw
          clear hJ hw hb
          try dsimp only
          have e54 : f 54 = .bool true := HJ.out.pure 54 _ (by rw [HS.out]; rfl) (HW.out 54 (by decide))
          simp only [e54]
          rw [if_pos (by rfl)]
          obtain ⟨xg0, xg1, xg2, _⟩ := (Bx_11.out.kp HJ.out.k).cells
          go_simp
          exact hK.out _ (.agg #[.bool xs, .slice xq1 xr1 xs1, .slice xq2 xr2 xs2]) _ (by (try dsimp only) <;> simp only [Act.put, List.setIfInBounds_toArray, List.set_cons_zero, List.set_cons_succ, e54]) (HJ.out.pureStep 55 _ HB.out (by rw [HS.out]; rfl) (by rw [HS.out]; rfl) (by rw [HS.out]; rfl) (by rw [HS.out]; rfl))
        refine StepsJ.cons ?_ ?_
        · intro b f w1 hb hw hJ K hK
          have HB := Lib.hid hb
          have HJ := Lib.hid hJ
          have HW := Lib.hid hw
          clear hJ hw hb
          try dsimp only
          have e54 : f 54 = .bool true := HJ.out.pure 54 _ (by rw [HS.out]; rfl) (HW.out 54 (by decide))
          simp only [e54]
          rw [if_pos (by rfl)]
          obtain ⟨yg0, yg1, yg2, _⟩ := (By_11.out.kp HJ.out.k).cells
          go_simp
          exact hK.out _ (.agg #[.bool ys, .slice yq1 yr1 ys1, .slice yq2 yr2 ys2]) _ (by (try dsimp only) <;> simp only [Act.put, List.setIfInBounds_toArray, List.set_cons_zero, List.set_cons_succ, e54]) (HJ.out.pureStep 56 _ HB.out (by rw [HS.out]; rfl) (by rw [HS.out]; rfl) (by rw [HS.out]; rfl) (by rw [HS.out]; rfl))
        refine StepsJ.cons ?_ ?_
        · intro b f w1 hb hw hJ K hK
          have HB := Lib.hid hb
          have HJ := Lib.hid hJ
          have HW := Lib.hid hw
          clear hJ hw hb
          try dsimp only
          have e54 : f 54 = .bool true := HJ.out.pure 54 _ (by rw [HS.out]; rfl) (HW.out 54 (by decide))
          have e55 : f 55 = .agg #[.bool xs, .slice xq1 xr1 xs1, .slice xq2 xr2 xs2] := HJ.out.pure 55 _ (by rw [HS.out]; rfl) (HW.out 55 (by decide))
          have e56 : f 56 = .agg #[.bool ys, .slice yq1 yr1 ys1, .slice yq2 yr2 ys2] := HJ.out.pure 56 _ (by rw [HS.out]; rfl) (HW.out 56 (by decide))
          simp only [e54, e55, e56]
          rw [if_pos (by rfl)]
          go_simp
          go_at_call 31
          (with_reducible refine (C25.out _ _ _ (Vx_11.out.kp HJ.out.k) (Vy_11.out.kp HJ.out.k) (Z_11.out.kp HJ.out.k)).mono ?_)
          rintro e w2 ⟨vr, rfl, hr, kk⟩
          exact hK.out _ vr _ (by (try dsimp only) <;> simp only [Act.put, List.setIfInBounds_toArray, List.set_cons_zero, List.set_cons_succ, e54, e55, e56]) (HJ.out.callStep 57 vr _ HB.out kk hr (by rw [HS.out]; rfl) (by rw [HS.out]; rfl) (by rw [HS.out]; rfl) (by rw [HS.out]; rfl))
        refine StepsJ.cons ?_ ?_
        · intro b f w1 hb hw hJ K hK
          have HB := Lib.hid hb
          have HJ := Lib.hid hJ
          have HW := Lib.hid hw
          clear hJ hw hb
          try dsimp only
          have e54 : f 54 = .bool true := HJ.out.pure 54 _ (by rw [HS.out]; rfl) (HW.out 54 (by decide))
          simp only [e54]
          rw [if_pos (by rfl)]
          have a57 := HJ.out.call 57 _ (by rw [HS.out]; rfl) (HW.out 57 (by decide))
          have Ha57 := Lib.hid a57
          clear a57
          go_simp
          go_at_call 17
          (with_reducible refine (C26.out _ _ Ha57.out (Z_11.out.kp HJ.out.k)).mono ?_)
          rintro e w2 ⟨rfl, kk⟩
          exact hK.out _ (.bool true) _ (by (try dsimp only) <;> simp only [Act.put, List.setIfInBounds_toArray, List.set_cons_zero, List.set_cons_succ, e54]) ((HJ.out.later kk).pureStep 58 _ HB.out (by rw [HS.out]; rfl) (by rw [HS.out]; rfl) (by rw [HS.out]; rfl) (by rw [HS.out]; rfl))
        refine StepsJ.cons ?_ ?_
        · intro b f w1 hb hw hJ K hK
          have HB := Lib.hid hb
          have HJ := Lib.hid hJ
          have HW := Lib.hid hw
          clear hJ hw hb
          try dsimp only
          have e54 : f 54 = .bool true := HJ.out.pure 54 _ (by rw [HS.out]; rfl) (HW.out 54 (by decide))
          have e58 : f 58 = .bool true := HJ.out.pure 58 _ (by rw [HS.out]; rfl) (HW.out 58 (by decide))
          simp only [e54, e58]
          rw [if_pos (by rfl)]
          go_simp
          exact hK.out _ (.bool true) _ (by (try dsimp only) <;> simp only [Act.put, List.setIfInBounds_toArray, List.set_cons_zero, List.set_cons_succ, e54, e58]) (HJ.out.pureStep 59 _ HB.out (by rw [HS.out]; rfl) (by rw [HS.out]; rfl) (by rw [HS.out]; rfl) (by rw [HS.out]; rfl))
        refine StepsJ.cons ?_ ?_
        · intro b f w1 hb hw hJ K hK
          have HB := Lib.hid hb
          have HJ := Lib.hid hJ
          have HW := Lib.hid hw
          clear hJ hw hb
          try dsimp only
          have e59 : f 59 = .bool true := HJ.out.pure 59 _ (by rw [HS.out]; rfl) (HW.out 59 (by decide))
          simp only [e59]
          rw [if_pos (by rfl)]
          go_simp
          exact hK.out _ (.bool true) _ (by (try dsimp only) <;> simp only [Act.put, List.setIfInBounds_toArray, List.set_cons_zero, List.set_cons_succ, e59]) (HJ.out.pureStep 60 _ HB.out (by rw [HS.out]; rfl) (by rw [HS.out]; rfl) (by rw [HS.out]; rfl) (by rw [HS.out]; rfl))
        refine StepsJ.cons ?_ ?_
        · intro b f w1 hb hw hJ K hK
          have HB := Lib.hid hb
          have HJ := Lib.hid hJ
          have HW := Lib.hid hw
          clear hJ hw hb
          try dsimp only
          have e60 : f 60 = .bool true := HJ.out.pure 60 _ (by rw [HS.out]; rfl) (HW.out 60 (by decide))
          simp only [e60]
          rw [if_pos (by rfl)]
          go_simp
          go_at_call 14
          (with_reducible refine (CAW.out _ (T_11.out.kp HJ.out.k).k (Z_11.out.kp HJ.out.k)).mono ?_)
          rintro e w2 ⟨rfl, kk⟩
          exact hK.out _ (.bool true) _ (by (try dsimp only) <;> simp only [Act.put, List.setIfInBounds_toArray, List.set_cons_zero, List.set_cons_succ, e60]) ((HJ.out.later kk).pureStep 61 _ HB.out (by rw [HS.out]; rfl) (by rw [HS.out]; rfl) (by rw [HS.out]; rfl) (by rw [HS.out]; rfl))
        refine StepsJ.cons ?_ ?_
        · intro b f w1 hb hw hJ K hK
          have HB := Lib.hid hb
          have HJ := Lib.hid hJ
          have HW := Lib.hid hw
          clear hJ hw hb
          try dsimp only
          have e60 : f 60 = .bool true := HJ.out.pure 60 _ (by rw [HS.out]; rfl) (HW.out 60 (by decide))
          have e61 : f 61 = .bool true := HJ.out.pure 61 _ (by rw [HS.out]; rfl) (HW.out 61 (by decide))
          simp only [e60, e61]
          rw [if_pos (by rfl)]
          go_simp
          exact hK.out _ (.bool true) _ (by (try dsimp only) <;> simp only [Act.put, List.setIfInBounds_toArray, List.set_cons_zero, List.set_cons_succ, e60, e61]) (HJ.out.pureStep 62 _ HB.out (by rw [HS.out]; rfl) (by rw [HS.out]; rfl) (by rw [HS.out]; rfl) (by rw [HS.out]; rfl))
        refine StepsJ.cons ?_ ?_
        · intro b f w1 hb hw hJ K hK
          have HB := Lib.hid hb
          have HJ := Lib.hid hJ
          have HW := Lib.hid hw
          clear hJ hw hb
          try dsimp only
          have e62 : f 62 = .bool true := HJ.out.pure 62 _ (by rw [HS.out]; rfl) (HW.out 62 (by decide))
          simp only [e62]
          rw [if_pos (by rfl)]
          go_simp
          exact hK.out _ (.bool true) _ (by (try dsimp only) <;> simp only [Act.put, List.setIfInBounds_toArray, List.set_cons_zero, List.set_cons_succ, e62]) (HJ.out.pureStep 63 _ HB.out (by rw [HS.out]; rfl) (by rw [HS.out]; rfl) (by rw [HS.out]; rfl) (by rw [HS.out]; rfl))
        exact StepsJ.nil
      case hend =>
        intro b f w12 hb hJ
        try dsimp only
        have e63 : f 63 = .bool true := hJ.pure 63 _ (by rw [HS.out]; rfl) (hb 63 (by decide))
        have kk := hJ.k
        clear hJ hb
        have T_12 := Lib.hid (T_11.out.kp kk)
        have Z_12 := Lib.hid (Z_11.out.kp kk)
        have Vx_12 := Lib.hid (Vx_11.out.kp kk)
        have Bx_12 := Lib.hid (Bx_11.out.kp kk)
        have Vy_12 := Lib.hid (Vy_11.out.kp kk)
        have By_12 := Lib.hid (By_11.out.kp kk)
        have Vz_12 := Lib.hid (Vz_11.out.kp kk)
        have Bz_12 := Lib.hid (Bz_11.out.kp kk)
        have Vq_12 := Lib.hid (Vq_11.out.kp kk)
        have Bq_12 := Lib.hid (Bq_11.out.kp kk)
        clear kk T_11 Z_11 Vx_11 Bx_11 Vy_11 By_11 Vz_11 Bz_11 Vq_11 Bq_11
        simp only [e63]
        clear e63
        generalize f 0 = yc0
        generalize f 1 = yc1
        generalize f 2 = yc2
        generalize f 3 = yc3
        generalize f 4 = yc4
        generalize f 5 = yc5
        generalize f 6 = yc6
        generalize f 7 = yc7
        generalize f 8 = yc8
        generalize f 9 = yc9
        generalize f 10 = yc10
        generalize f 11 = yc11
        generalize f 12 = yc12
        generalize f 13 = yc13
        generalize f 14 = yc14
        generalize f 15 = yc15
        generalize f 16 = yc16
        generalize f 17 = yc17
        generalize f 18 = yc18
        generalize f 19 = yc19
        generalize f 20 = yc20
        generalize f 21 = yc21
        generalize f 22 = yc22
        generalize f 23 = yc23
        generalize f 24 = yc24
        generalize f 25 = yc25
        generalize f 26 = yc26
        generalize f 27 = yc27
        generalize f 28 = yc28
        generalize f 29 = yc29
        generalize f 30 = yc30
        generalize f 31 = yc31
        generalize f 32 = yc32
        generalize f 33 = yc33
        generalize f 34 = yc34
        generalize f 35 = yc35
        generalize f 36 = yc36
        generalize f 37 = yc37
        generalize f 38 = yc38
        generalize f 39 = yc39
        generalize f 40 = yc40
        generalize f 41 = yc41
        generalize f 42 = yc42
        generalize f 43 = yc43
        generalize f 44 = yc44
        generalize f 45 = yc45
        generalize f 46 = yc46
        generalize f 47 = yc47
        generalize f 48 = yc48
        generalize f 49 = yc49
        generalize f 50 = yc50
        generalize f 51 = yc51
        generalize f 52 = yc52
        generalize f 53 = yc53
        generalize f 54 = yc54
        generalize f 55 = yc55
        generalize f 56 = yc56
        generalize f 57 = yc57
        generalize f 58 = yc58
        generalize f 59 = yc59
        generalize f 60 = yc60
        generalize f 61 = yc61
        generalize f 62 = yc62
        clear HS S f b
        obtain ⟨xz0, xz1, xz2⟩ := T_12.out.ra.cells
        obtain ⟨yz0, yz1, yz2⟩ := T_12.out.rb.cells
        obtain ⟨zz0, zz1, zz2⟩ := T_12.out.rc.cells
        obtain ⟨xg0, xg1, xg2, _⟩ := Bx_12.out.cells
        obtain ⟨yg0, yg1, yg2, _⟩ := By_12.out.cells
        obtain ⟨zg0, zg1, zg2, _⟩ := Bz_12.out.cells
        obtain ⟨qg0, qg1, qg2, _⟩ := Bq_12.out.cells
        go_wp2
        go_ret
        exact ⟨rfl, T_12.out.k⟩

theorem field_walk {w : World} {sa : Bool} {ua ub : Value} {n1 d1 : List Nat} {sb : Bool} {va vb : Value} {n2 d2 : List Nat} {sc : Bool} {wa wb : Value} {n3 d3 : List Nat} (hua : Rd w ua n1) (hub : Rd w ub d1) (hva : Rd w va n2) (hvb : Rd w vb d2) (hwa : Rd w wa n3) (hwb : Rd w wb d3) (htab : Lib.TabIs Tryz.prog w "internal/strconv.uint64pow10" .u64 Lib.pow10Tab) (hZ : Tz w) :
    Calls Tryz.prog 9 #[.agg #[.bool sa, ua, ub], .agg #[.bool sb, va, vb], .agg #[.bool sc, wa, wb]] w fun e w' => e = .returned (.bool true) ∧ Kp w w' := by
  by_cases hl1 : n1.length ≤ 16 ∧ d1.length ≤ 16
  rotate_left
  · exact field_no1 hua hub hva hvb hwa hwb hl1 htab hZ
  by_cases hl2 : n2.length ≤ 16 ∧ d2.length ≤ 16
  rotate_left
  · exact field_no2 hua hub hva hvb hwa hwb hl1 hl2 htab hZ
  by_cases hl3 : n3.length ≤ 16 ∧ d3.length ≤ 16
  rotate_left
  · exact field_no3 hua hub hva hvb hwa hwb hl1 hl2 hl3 htab hZ
  by_cases h0 : numR sb n2 d2 = 0
  · exact field_zero hua hub hva hvb hwa hwb h0 ⟨hl1, hl2, hl3⟩ htab hZ
  · exact field_some hua hub hva hvb hwa hwb h0 ⟨hl1, hl2, hl3⟩ htab hZ
end Go.Proofs.YtmnnnoeenfmckaaGreatDoor
