/-
  brepkernellaw02.RationalSums: by the contracts.
-/
import Derived.Test.YtmnnnoeenfmckaaGreatDoorReg
import Derived.Test.YtmnnnoeenfmckaaGreatDoorRw
import Derived.Test.YtmnnnoeenfmckaaGreatDoorBq
import Derived.Test.YtmnnnoeenfmckaaGreatDoorBt
import Derived.Test.YtmnnnoeenfmckaaGreatDoorBs
import Derived.Test.YtmnnnoeenfmckaaGreatDoorBr
import Derived.Test.YtmnnnoeenfmckaaGreatDoorBn
import Derived.Test.YtmnnnoeenfmckaaGreatDoorBo
namespace Go.Proofs.YtmnnnoeenfmckaaGreatDoor
open Go.RowKit

set_option maxRecDepth 20000 in
set_option maxHeartbeats 4000000 in
theorem sums_no1 {w : World} {sa : Bool} {ua ub : Value} {n1 d1 : List Nat} {sb : Bool} {va vb : Value} {n2 d2 : List Nat} (hua : Rd w ua n1) (hub : Rd w ub d1) (hva : Rd w va n2) (hvb : Rd w vb d2) (hn : ¬ (n1.length ≤ 16 ∧ d1.length ≤ 16)) (htab : Lib.TabIs Tryz.prog w "internal/strconv.uint64pow10" .u64 Lib.pow10Tab) (hZ : Tz w) :
    Calls Tryz.prog 5 #[.agg #[.bool sa, ua, ub], .agg #[.bool sb, va, vb]] w fun e w' => e = .returned (.bool true) ∧ Kp w w' := by
  have HTB := Lib.hid (Lib.tabBelow_of_tabIs htab)
  have HZ := Lib.hid hZ
  have CAW := Lib.hid (fun w' (kk : Kp w w') (t : Tz w') => qawake_any w' t (tabKp HTB.out kk))
  have CL1 := Lib.hid (fun w' (kk : Kp w w') => qlight_no (s := sa) (hua.kp kk) (hub.kp kk) hn)
  obtain ⟨xo1, xl1, xc1, rfl⟩ := rd_slice hua
  obtain ⟨xo2, xl2, xc2, rfl⟩ := rd_slice hub
  obtain ⟨yo1, yl1, yc1, rfl⟩ := rd_slice hva
  obtain ⟨yo2, yl2, yc2, rfl⟩ := rd_slice hvb
  have HT := Lib.hid (Rw2.new w (.bool sa) (.slice xo1 xl1 xc1) (.slice xo2 xl2 xc2) (.bool sb) (.slice yo1 yl1 yc1) (.slice yo2 yl2 yc2))
  clear hua hub hva hvb htab hZ hn
  go_enter Tryz.func5, Tryz.ntmps5
  have Z_e := Lib.hid (HZ.out.kp HT.out.k)
  obtain ⟨xz0, xz1, xz2⟩ := HT.out.ra.cells
  obtain ⟨yz0, yz1, yz2⟩ := HT.out.rb.cells
  go_wp2_with (go_at_call 13; (with_reducible refine (CL1.out _ HT.out.k).mono ?_); rintro e w2 ⟨rfl, k2⟩; refine Hid.out ?_)
  refine Lib.hid ?_
  have T_2 := Lib.hid (HT.out.kp k2)
  have Z_2 := Lib.hid (Z_e.out.kp k2)
  clear HT Z_e
  clear k2
  obtain ⟨xz0, xz1, xz2⟩ := T_2.out.ra.cells
  obtain ⟨yz0, yz1, yz2⟩ := T_2.out.rb.cells
  go_wp2_with (go_at_call 14; (with_reducible refine (CAW.out _ T_2.out.k Z_2.out).mono ?_); rintro e w3 ⟨rfl, k3⟩; refine Hid.out ?_)
  refine Lib.hid ?_
  have T_3 := Lib.hid (T_2.out.kp k3)
  have Z_3 := Lib.hid (Z_2.out.kp k3)
  clear T_2 Z_2
  clear k3
  obtain ⟨xz0, xz1, xz2⟩ := T_3.out.ra.cells
  obtain ⟨yz0, yz1, yz2⟩ := T_3.out.rb.cells
  go_wp2
  go_ret
  exact ⟨rfl, T_3.out.k⟩

set_option maxRecDepth 20000 in
set_option maxHeartbeats 4000000 in
theorem sums_no2 {w : World} {sa : Bool} {ua ub : Value} {n1 d1 : List Nat} {sb : Bool} {va vb : Value} {n2 d2 : List Nat} (hua : Rd w ua n1) (hub : Rd w ub d1) (hva : Rd w va n2) (hvb : Rd w vb d2) (hl1 : n1.length ≤ 16 ∧ d1.length ≤ 16) (hn : ¬ (n2.length ≤ 16 ∧ d2.length ≤ 16)) (htab : Lib.TabIs Tryz.prog w "internal/strconv.uint64pow10" .u64 Lib.pow10Tab) (hZ : Tz w) :
    Calls Tryz.prog 5 #[.agg #[.bool sa, ua, ub], .agg #[.bool sb, va, vb]] w fun e w' => e = .returned (.bool true) ∧ Kp w w' := by
  have HTB := Lib.hid (Lib.tabBelow_of_tabIs htab)
  have HZ := Lib.hid hZ
  have CAW := Lib.hid (fun w' (kk : Kp w w') (t : Tz w') => qawake_any w' t (tabKp HTB.out kk))
  have CL1 := Lib.hid (fun w' (kk : Kp w w') => qlight_yes (s := sa) (hua.kp kk) (hub.kp kk) hl1)
  have CL2 := Lib.hid (fun w' (kk : Kp w w') => qlight_no (s := sb) (hva.kp kk) (hvb.kp kk) hn)
  obtain ⟨xo1, xl1, xc1, rfl⟩ := rd_slice hua
  obtain ⟨xo2, xl2, xc2, rfl⟩ := rd_slice hub
  obtain ⟨yo1, yl1, yc1, rfl⟩ := rd_slice hva
  obtain ⟨yo2, yl2, yc2, rfl⟩ := rd_slice hvb
  have HT := Lib.hid (Rw2.new w (.bool sa) (.slice xo1 xl1 xc1) (.slice xo2 xl2 xc2) (.bool sb) (.slice yo1 yl1 yc1) (.slice yo2 yl2 yc2))
  clear hua hub hva hvb htab hZ hn hl1
  go_enter Tryz.func5, Tryz.ntmps5
  have Z_e := Lib.hid (HZ.out.kp HT.out.k)
  obtain ⟨xz0, xz1, xz2⟩ := HT.out.ra.cells
  obtain ⟨yz0, yz1, yz2⟩ := HT.out.rb.cells
  go_wp2_with (go_at_call 13; (with_reducible refine (CL1.out _ HT.out.k).mono ?_); rintro e w2 ⟨rfl, k2⟩; refine Hid.out ?_)
  refine Lib.hid ?_
  have T_2 := Lib.hid (HT.out.kp k2)
  have Z_2 := Lib.hid (Z_e.out.kp k2)
  clear HT Z_e
  clear k2
  obtain ⟨xz0, xz1, xz2⟩ := T_2.out.ra.cells
  obtain ⟨yz0, yz1, yz2⟩ := T_2.out.rb.cells
  go_wp2_with (go_at_call 13; (with_reducible refine (CL2.out _ T_2.out.k).mono ?_); rintro e w3 ⟨rfl, k3⟩; refine Hid.out ?_)
  refine Lib.hid ?_
  have T_3 := Lib.hid (T_2.out.kp k3)
  have Z_3 := Lib.hid (Z_2.out.kp k3)
  clear T_2 Z_2
  clear k3
  obtain ⟨xz0, xz1, xz2⟩ := T_3.out.ra.cells
  obtain ⟨yz0, yz1, yz2⟩ := T_3.out.rb.cells
  go_wp2_with (go_at_call 14; (with_reducible refine (CAW.out _ T_3.out.k Z_3.out).mono ?_); rintro e w4 ⟨rfl, k4⟩; refine Hid.out ?_)
  refine Lib.hid ?_
  have T_4 := Lib.hid (T_3.out.kp k4)
  have Z_4 := Lib.hid (Z_3.out.kp k4)
  clear T_3 Z_3
  clear k4
  obtain ⟨xz0, xz1, xz2⟩ := T_4.out.ra.cells
  obtain ⟨yz0, yz1, yz2⟩ := T_4.out.rb.cells
  go_wp2
  go_ret
  exact ⟨rfl, T_4.out.k⟩

set_option maxRecDepth 20000 in
set_option maxHeartbeats 4000000 in
theorem sums_zero {w : World} {sa : Bool} {ua ub : Value} {n1 d1 : List Nat} {sb : Bool} {va vb : Value} {n2 d2 : List Nat} (hua : Rd w ua n1) (hub : Rd w ub d1) (hva : Rd w va n2) (hvb : Rd w vb d2) (h0 : numR sb n2 d2 = 0) (hl : (n1.length ≤ 16 ∧ d1.length ≤ 16) ∧ (n2.length ≤ 16 ∧ d2.length ≤ 16)) (htab : Lib.TabIs Tryz.prog w "internal/strconv.uint64pow10" .u64 Lib.pow10Tab) (hZ : Tz w) :
    Calls Tryz.prog 5 #[.agg #[.bool sa, ua, ub], .agg #[.bool sb, va, vb]] w fun e w' => e = .returned (.bool true) ∧ Kp w w' := by
  have HTB := Lib.hid (Lib.tabBelow_of_tabIs htab)
  have HZ := Lib.hid hZ
  have CAW := Lib.hid (fun w' (kk : Kp w w') (t : Tz w') => qawake_any w' t (tabKp HTB.out kk))
  obtain ⟨hl1, hl2⟩ := hl
  have CL1 := Lib.hid (fun w' (kk : Kp w w') => qlight_yes (s := sa) (hua.kp kk) (hub.kp kk) hl1)
  have CN1 := Lib.hid (fun w' (kk : Kp w w') => number_any (s := sa) (hua.kp kk) (hub.kp kk) hl1.1 hl1.2)
  have Sx : RSz 16 (numR sa n1 d1) := rsz_num hua hub hl1.1 hl1.2
  obtain ⟨Xx, hXx⟩ : ∃ X, X = (numR sa n1 d1) := ⟨_, rfl⟩
  rw [← hXx] at CN1 Sx
  clear hXx
  have CL2 := Lib.hid (fun w' (kk : Kp w w') => qlight_yes (s := sb) (hva.kp kk) (hvb.kp kk) hl2)
  have CN2 := Lib.hid (fun w' (kk : Kp w w') => number_any (s := sb) (hva.kp kk) (hvb.kp kk) hl2.1 hl2.2)
  have Sy : RSz 16 (numR sb n2 d2) := rsz_num hva hvb hl2.1 hl2.2
  obtain ⟨Xy, hXy⟩ : ∃ X, X = (numR sb n2 d2) := ⟨_, rfl⟩
  rw [← hXy] at CN2 Sy h0
  clear hXy
  obtain ⟨xo1, xl1, xc1, rfl⟩ := rd_slice hua
  obtain ⟨xo2, xl2, xc2, rfl⟩ := rd_slice hub
  obtain ⟨yo1, yl1, yc1, rfl⟩ := rd_slice hva
  obtain ⟨yo2, yl2, yc2, rfl⟩ := rd_slice hvb
  have HT := Lib.hid (Rw2.new w (.bool sa) (.slice xo1 xl1 xc1) (.slice xo2 xl2 xc2) (.bool sb) (.slice yo1 yl1 yc1) (.slice yo2 yl2 yc2))
  have CQ1 := Lib.hid (fun w' a b (ha : RatV w' a (Xx)) (hb : RatV w' b (Xy)) => (show Calls Tryz.prog 25 #[a, b] w' fun e w2 => ∃ v, e = .returned (.tuple #[v, .int .i64 3]) ∧ RatV w2 v 0 ∧ Kp w' w2 from (quo_zero ha hb h0).mono fun e w2 ⟨he, k⟩ => ⟨_, he, RatV.zero w2, k⟩))
  have CQ2 := Lib.hid (fun w' a b (ha : RatV w' a (Xx)) (hb : RatV w' b (Xy)) => (show Calls Tryz.prog 26 #[a, b] w' fun e w2 => ∃ v, e = .returned (.tuple #[v, .int .i64 3]) ∧ RatV w2 v 0 ∧ Kp w' w2 from (rqquo_zero ha hb h0).mono fun e w2 ⟨he, k⟩ => ⟨_, he, RatV.zero w2, k⟩))
  have C1 := Lib.hid (fun w' a b (ha : RatV w' a (Xx)) (hb : RatV w' b (Xy)) (t : Tz w') => qadd_any ha hb Sx Sy (by omega) (by omega) t)
  have C2 := Lib.hid (fun w' a b (ha : RatV w' a (Xx)) (hb : RatV w' b (Xy)) => rqadd_any ha hb Sx Sy (by omega) (by omega))
  have C3 := Lib.hid (fun w' a b (ha : RatV w' a ((Xx + Xy))) (hb : RatV w' b ((Xx + Xy))) => by have h := rqsame_any ha hb; rw [decide_eq_true (show ((Xx + Xy)) = ((Xx + Xy)) from rfl)] at h; exact h)
  have C4 := Lib.hid (fun w' a b (ha : RatV w' a (Xx)) (hb : RatV w' b (Xy)) (t : Tz w') => qsub_any ha hb Sx Sy (by omega) (by omega) t)
  have C5 := Lib.hid (fun w' a b (ha : RatV w' a (Xx)) (hb : RatV w' b (Xy)) => rqsub_any ha hb Sx Sy (by omega) (by omega))
  have C6 := Lib.hid (fun w' a b (ha : RatV w' a ((Xx - Xy))) (hb : RatV w' b ((Xx - Xy))) => by have h := rqsame_any ha hb; rw [decide_eq_true (show ((Xx - Xy)) = ((Xx - Xy)) from rfl)] at h; exact h)
  have C7 := Lib.hid (fun w' a b (ha : RatV w' a (Xx)) (hb : RatV w' b (Xy)) (t : Tz w') => qmul_any ha hb Sx Sy (by omega) (by omega) t)
  have C8 := Lib.hid (fun w' a b (ha : RatV w' a (Xx)) (hb : RatV w' b (Xy)) => rqmul_any ha hb Sx Sy (by omega) (by omega))
  have C9 := Lib.hid (fun w' a b (ha : RatV w' a ((Xx * Xy))) (hb : RatV w' b ((Xx * Xy))) => by have h := rqsame_any ha hb; rw [decide_eq_true (show ((Xx * Xy)) = ((Xx * Xy)) from rfl)] at h; exact h)
  have C10 := Lib.hid (fun w' a b (ha : RatV w' a ((0 : Rat))) (hb : RatV w' b ((0 : Rat))) => by have h := rqsame_any ha hb; rw [decide_eq_true (show ((0 : Rat)) = ((0 : Rat)) from rfl)] at h; exact h)
  clear h0
  clear hua hub hl1 Sx hva hvb hl2 Sy htab hZ
  go_enter Tryz.func5, Tryz.ntmps5
  have Z_e := Lib.hid (HZ.out.kp HT.out.k)
  obtain ⟨xz0, xz1, xz2⟩ := HT.out.ra.cells
  obtain ⟨yz0, yz1, yz2⟩ := HT.out.rb.cells
  go_wp2_with (go_at_call 13; (with_reducible refine (CL1.out _ HT.out.k).mono ?_); rintro e w2 ⟨rfl, k2⟩; refine Hid.out ?_)
  refine Lib.hid ?_
  have T_2 := Lib.hid (HT.out.kp k2)
  have Z_2 := Lib.hid (Z_e.out.kp k2)
  clear HT Z_e
  clear k2
  obtain ⟨xz0, xz1, xz2⟩ := T_2.out.ra.cells
  obtain ⟨yz0, yz1, yz2⟩ := T_2.out.rb.cells
  go_wp2_with (go_at_call 13; (with_reducible refine (CL2.out _ T_2.out.k).mono ?_); rintro e w3 ⟨rfl, k3⟩; refine Hid.out ?_)
  refine Lib.hid ?_
  have T_3 := Lib.hid (T_2.out.kp k3)
  have Z_3 := Lib.hid (Z_2.out.kp k3)
  clear T_2 Z_2
  clear k3
  obtain ⟨xz0, xz1, xz2⟩ := T_3.out.ra.cells
  obtain ⟨yz0, yz1, yz2⟩ := T_3.out.rb.cells
  go_upto_region 3 with fail
  have T_4 := Lib.hid (T_3.out.kp (Below.refl _ _).drew)
  have Z_4 := Lib.hid (Z_3.out.kp (Below.refl _ _).drew)
  clear T_3 Z_3
  obtain ⟨S, hS⟩ : ∃ S : Plan, S = ⟨[(0, .agg #[.bool sa, .slice xo1 xl1 xc1, .slice xo2 xl2 xc2]), (2, .agg #[.bool sb, .slice yo1 yl1 yc1, .slice yo2 yl2 yc2])], [(1, Xx), (3, Xy)], [], [⟨4, 6, 1⟩, ⟨5, 7, 3⟩]⟩ := ⟨_, rfl⟩
  have HS := Lib.hid hS
  clear hS
  refine' wp_region_inv (F := _) (by kernel_rfl) (by kernel_rfl) (by kernel_rfl) (PJ S _) (PJ.begin _ _ _) ?hF ?hsteps ?hend
  case hF => intro f; (try simp only [List.append]); simp only [putAll, Act.put, List.setIfInBounds_toArray, List.set_cons_zero, List.set_cons_succ, Nat.zero_add, Nat.reduceAdd]; exact rfl
  case hsteps =>
    refine StepsJ.cons ?_ ?_
    · intro b f w1 hb hw hJ K hK
      have HB := Lib.hid hb
      have HJ := Lib.hid hJ
      have HW := Lib.hid hw
      clear hJ hw hb
      try dsimp only
      rw [if_pos (by rfl)]
      obtain ⟨xz0, xz1, xz2⟩ := (T_4.out.kp HJ.out.k).ra.cells
      go_simp
      exact hK.out _ (.agg #[.bool sa, .slice xo1 xl1 xc1, .slice xo2 xl2 xc2]) _ (by (try dsimp only) <;> simp only [Act.put, List.setIfInBounds_toArray, List.set_cons_zero, List.set_cons_succ]) (HJ.out.pureStep 0 _ HB.out (by rw [HS.out]; rfl) (by rw [HS.out]; rfl) (by rw [HS.out]; rfl) (by rw [HS.out]; rfl))
    refine StepsJ.cons ?_ ?_
    · intro b f w1 hb hw hJ K hK
      have HB := Lib.hid hb
      have HJ := Lib.hid hJ
      have HW := Lib.hid hw
      clear hJ hw hb
      try dsimp only
      have e0 : f 0 = .agg #[.bool sa, .slice xo1 xl1 xc1, .slice xo2 xl2 xc2] := HJ.out.pure 0 _ (by rw [HS.out]; rfl) (HW.out 0 (by decide))
      simp only [e0]
      rw [if_pos (by rfl)]
      go_simp
      go_at_call 24
      (with_reducible refine (CN1.out _ (T_4.out.kp HJ.out.k).k).mono ?_)
      rintro e w2 ⟨vr, rfl, hr, kk⟩
      exact hK.out _ vr _ (by (try dsimp only) <;> simp only [Act.put, List.setIfInBounds_toArray, List.set_cons_zero, List.set_cons_succ, e0]) (HJ.out.callStep 1 vr _ HB.out kk hr (by rw [HS.out]; rfl) (by rw [HS.out]; rfl) (by rw [HS.out]; rfl) (by rw [HS.out]; rfl))
    refine StepsJ.cons ?_ ?_
    · intro b f w1 hb hw hJ K hK
      have HB := Lib.hid hb
      have HJ := Lib.hid hJ
      have HW := Lib.hid hw
      clear hJ hw hb
      try dsimp only
      rw [if_pos (by rfl)]
      obtain ⟨yz0, yz1, yz2⟩ := (T_4.out.kp HJ.out.k).rb.cells
      go_simp
      exact hK.out _ (.agg #[.bool sb, .slice yo1 yl1 yc1, .slice yo2 yl2 yc2]) _ (by (try dsimp only) <;> simp only [Act.put, List.setIfInBounds_toArray, List.set_cons_zero, List.set_cons_succ]) (HJ.out.pureStep 2 _ HB.out (by rw [HS.out]; rfl) (by rw [HS.out]; rfl) (by rw [HS.out]; rfl) (by rw [HS.out]; rfl))
    refine StepsJ.cons ?_ ?_
    · intro b f w1 hb hw hJ K hK
      have HB := Lib.hid hb
      have HJ := Lib.hid hJ
      have HW := Lib.hid hw
      clear hJ hw hb
      try dsimp only
      have e2 : f 2 = .agg #[.bool sb, .slice yo1 yl1 yc1, .slice yo2 yl2 yc2] := HJ.out.pure 2 _ (by rw [HS.out]; rfl) (HW.out 2 (by decide))
      simp only [e2]
      rw [if_pos (by rfl)]
      go_simp
      go_at_call 24
      (with_reducible refine (CN2.out _ (T_4.out.kp HJ.out.k).k).mono ?_)
      rintro e w2 ⟨vr, rfl, hr, kk⟩
      exact hK.out _ vr _ (by (try dsimp only) <;> simp only [Act.put, List.setIfInBounds_toArray, List.set_cons_zero, List.set_cons_succ, e2]) (HJ.out.callStep 3 vr _ HB.out kk hr (by rw [HS.out]; rfl) (by rw [HS.out]; rfl) (by rw [HS.out]; rfl) (by rw [HS.out]; rfl))
    refine StepsJ.cons ?_ ?_
    · intro b f w1 hb hw hJ K hK
      have HB := Lib.hid hb
      have HJ := Lib.hid hJ
      have HW := Lib.hid hw
      clear hJ hw hb
      try dsimp only
      rw [if_pos (by rfl)]
      go_simp
      exact hK.out _ _ _ (by (try dsimp only) <;> simp only [Act.put, List.setIfInBounds_toArray, List.set_cons_zero, List.set_cons_succ]) (HJ.out.allocStep 4 HB.out (by rw [HS.out]; rfl) (by rw [HS.out]; rfl) (by rw [HS.out]; rfl) (by rw [HS.out]; rfl))
    refine StepsJ.cons ?_ ?_
    · intro b f w1 hb hw hJ K hK
      have HB := Lib.hid hb
      have HJ := Lib.hid hJ
      have HW := Lib.hid hw
      clear hJ hw hb
      try dsimp only
      rw [if_pos (by rfl)]
      go_simp
      exact hK.out _ _ _ (by (try dsimp only) <;> simp only [Act.put, List.setIfInBounds_toArray, List.set_cons_zero, List.set_cons_succ]) (HJ.out.allocStep 5 HB.out (by rw [HS.out]; rfl) (by rw [HS.out]; rfl) (by rw [HS.out]; rfl) (by rw [HS.out]; rfl))
    refine StepsJ.cons ?_ ?_
    · intro b f w1 hb hw hJ K hK
      have HB := Lib.hid hb
      have HJ := Lib.hid hJ
      have HW := Lib.hid hw
      clear hJ hw hb
      try dsimp only
      rw [if_pos (by rfl)]
      obtain ⟨g, s, o1, l1, c1, o2, l2, c2, h1, h2, hr, hn⟩ := HJ.out.storeStep ⟨4, 6, 1⟩ (by rw [HS.out]; simp) (Xx) (by rw [HS.out]; rfl) 6 rfl HB.out (HW.out 4 (by decide)) (HW.out 1 (by decide)) (by rw [HS.out]; rfl) (by rw [HS.out]; rfl) (by rw [HS.out]; rfl) (by rw [HS.out]; simp)
      have HN := Lib.hid hn
      obtain ⟨d0, d1, d2, f0, f1, f2⟩ := hr.cells
      clear hn hr
      simp only at h1 h2
      simp only [h1, h2]
      go_simp
      exact hK.out _ undef _ (by (try dsimp only) <;> simp only [Act.put, h1, h2]) (HN.out undef)
    refine StepsJ.cons ?_ ?_
    · intro b f w1 hb hw hJ K hK
      have HB := Lib.hid hb
      have HJ := Lib.hid hJ
      have HW := Lib.hid hw
      clear hJ hw hb
      try dsimp only
      rw [if_pos (by rfl)]
      obtain ⟨g, s, o1, l1, c1, o2, l2, c2, h1, h2, hr, hn⟩ := HJ.out.storeStep ⟨5, 7, 3⟩ (by rw [HS.out]; simp) (Xy) (by rw [HS.out]; rfl) 7 rfl HB.out (HW.out 5 (by decide)) (HW.out 3 (by decide)) (by rw [HS.out]; rfl) (by rw [HS.out]; rfl) (by rw [HS.out]; rfl) (by rw [HS.out]; simp)
      have HN := Lib.hid hn
      obtain ⟨d0, d1, d2, f0, f1, f2⟩ := hr.cells
      clear hn hr
      simp only at h1 h2
      simp only [h1, h2]
      go_simp
      exact hK.out _ undef _ (by (try dsimp only) <;> simp only [Act.put, h1, h2]) (HN.out undef)
    exact StepsJ.nil
  case hend =>
    intro b f w5 hb hJ
    try dsimp only
    obtain ⟨gx, xs, xq1, xr1, xs1, xq2, xr2, xs2, ex, hrx, hx⟩ := hJ.all ⟨4, 6, 1⟩ (by rw [HS.out]; simp) (Xx) (by rw [HS.out]; rfl) (hb 4 (by decide)) (hb 1 (by decide)) (hb 6 (by decide))
    obtain ⟨gy, ys, yq1, yr1, ys1, yq2, yr2, ys2, ey, hry, hy⟩ := hJ.all ⟨5, 7, 3⟩ (by rw [HS.out]; simp) (Xy) (by rw [HS.out]; rfl) (hb 5 (by decide)) (hb 3 (by decide)) (hb 7 (by decide))
    simp only at ex ey
    have kk := hJ.k
    clear hJ hb
    have T_5 := Lib.hid (T_4.out.kp kk)
    have Z_5 := Lib.hid (Z_4.out.kp kk)
    clear kk T_4 Z_4
    have Vx_5 := Lib.hid hx
    have Bx_5 := Lib.hid hrx
    clear hx hrx
    have Vy_5 := Lib.hid hy
    have By_5 := Lib.hid hry
    clear hy hry
    simp only [ex, ey]
    clear ex ey
    generalize f 0 = ya0
    generalize f 1 = ya1
    generalize f 2 = ya2
    generalize f 3 = ya3
    clear HS S f b
    obtain ⟨xz0, xz1, xz2⟩ := T_5.out.ra.cells
    obtain ⟨yz0, yz1, yz2⟩ := T_5.out.rb.cells
    obtain ⟨xg0, xg1, xg2, _⟩ := Bx_5.out.cells
    obtain ⟨yg0, yg1, yg2, _⟩ := By_5.out.cells
    go_wp2_with (go_at_call 25; (with_reducible refine (CQ1.out _ _ _ Vx_5.out Vy_5.out).mono ?_); rintro e w6 ⟨vp, rfl, hp, k6⟩; refine Hid.out ?_)
    refine Lib.hid ?_
    have T_6 := Lib.hid (T_5.out.kp k6)
    have Z_6 := Lib.hid (Z_5.out.kp k6)
    have Vx_6 := Lib.hid (Vx_5.out.kp k6)
    have Bx_6 := Lib.hid (Bx_5.out.kp k6)
    have Vy_6 := Lib.hid (Vy_5.out.kp k6)
    have By_6 := Lib.hid (By_5.out.kp k6)
    clear T_5 Z_5 Vx_5 Bx_5 Vy_5 By_5
    clear k6
    obtain ⟨ps, pq1, pr1, ps1, pq2, pr2, ps2, rfl⟩ := hp.lit
    have Vp_l := Lib.hid hp
    have Bp_l := Lib.hid (Res.new w6 (.bool ps) (.slice pq1 pr1 ps1) (.slice pq2 pr2 ps2))
    clear hp
    have T_7 := Lib.hid (T_6.out.kp (Kp.alloc _ (Obj.cells #[Value.bool ps, Value.slice pq1 pr1 ps1, Value.slice pq2 pr2 ps2] 27)))
    have Z_7 := Lib.hid (Z_6.out.kp (Kp.alloc _ (Obj.cells #[Value.bool ps, Value.slice pq1 pr1 ps1, Value.slice pq2 pr2 ps2] 27)))
    have Vx_7 := Lib.hid (Vx_6.out.kp (Kp.alloc _ (Obj.cells #[Value.bool ps, Value.slice pq1 pr1 ps1, Value.slice pq2 pr2 ps2] 27)))
    have Bx_7 := Lib.hid (Bx_6.out.kp (Kp.alloc _ (Obj.cells #[Value.bool ps, Value.slice pq1 pr1 ps1, Value.slice pq2 pr2 ps2] 27)))
    have Vy_7 := Lib.hid (Vy_6.out.kp (Kp.alloc _ (Obj.cells #[Value.bool ps, Value.slice pq1 pr1 ps1, Value.slice pq2 pr2 ps2] 27)))
    have By_7 := Lib.hid (By_6.out.kp (Kp.alloc _ (Obj.cells #[Value.bool ps, Value.slice pq1 pr1 ps1, Value.slice pq2 pr2 ps2] 27)))
    have Vp_7 := Lib.hid (Vp_l.out.kp (Kp.alloc _ (Obj.cells #[Value.bool ps, Value.slice pq1 pr1 ps1, Value.slice pq2 pr2 ps2] 27)))
    clear T_6 Z_6 Vx_6 Bx_6 Vy_6 By_6 Vp_l
    obtain ⟨xz0, xz1, xz2⟩ := T_7.out.ra.cells
    obtain ⟨yz0, yz1, yz2⟩ := T_7.out.rb.cells
    obtain ⟨xg0, xg1, xg2, _⟩ := Bx_7.out.cells
    obtain ⟨yg0, yg1, yg2, _⟩ := By_7.out.cells
    obtain ⟨pg0, pg1, pg2, _⟩ := Bp_l.out.cells
    go_wp2_with (go_at_call 26; (with_reducible refine (CQ2.out _ _ _ Vx_7.out Vy_7.out).mono ?_); rintro e w8 ⟨vq, rfl, hq, k8⟩; refine Hid.out ?_)
    refine Lib.hid ?_
    have T_8 := Lib.hid (T_7.out.kp k8)
    have Z_8 := Lib.hid (Z_7.out.kp k8)
    have Vx_8 := Lib.hid (Vx_7.out.kp k8)
    have Bx_8 := Lib.hid (Bx_7.out.kp k8)
    have Vy_8 := Lib.hid (Vy_7.out.kp k8)
    have By_8 := Lib.hid (By_7.out.kp k8)
    have Vp_8 := Lib.hid (Vp_7.out.kp k8)
    have Bp_8 := Lib.hid (Bp_l.out.kp k8)
    clear T_7 Z_7 Vx_7 Bx_7 Vy_7 By_7 Vp_7 Bp_l
    clear k8
    obtain ⟨qs, qq1, qr1, qs1, qq2, qr2, qs2, rfl⟩ := hq.lit
    have Vq_l := Lib.hid hq
    have Bq_l := Lib.hid (Res.new w8 (.bool qs) (.slice qq1 qr1 qs1) (.slice qq2 qr2 qs2))
    clear hq
    have T_9 := Lib.hid (T_8.out.kp (Kp.alloc _ (Obj.cells #[Value.bool qs, Value.slice qq1 qr1 qs1, Value.slice qq2 qr2 qs2] 27)))
    have Z_9 := Lib.hid (Z_8.out.kp (Kp.alloc _ (Obj.cells #[Value.bool qs, Value.slice qq1 qr1 qs1, Value.slice qq2 qr2 qs2] 27)))
    have Vx_9 := Lib.hid (Vx_8.out.kp (Kp.alloc _ (Obj.cells #[Value.bool qs, Value.slice qq1 qr1 qs1, Value.slice qq2 qr2 qs2] 27)))
    have Bx_9 := Lib.hid (Bx_8.out.kp (Kp.alloc _ (Obj.cells #[Value.bool qs, Value.slice qq1 qr1 qs1, Value.slice qq2 qr2 qs2] 27)))
    have Vy_9 := Lib.hid (Vy_8.out.kp (Kp.alloc _ (Obj.cells #[Value.bool qs, Value.slice qq1 qr1 qs1, Value.slice qq2 qr2 qs2] 27)))
    have By_9 := Lib.hid (By_8.out.kp (Kp.alloc _ (Obj.cells #[Value.bool qs, Value.slice qq1 qr1 qs1, Value.slice qq2 qr2 qs2] 27)))
    have Vp_9 := Lib.hid (Vp_8.out.kp (Kp.alloc _ (Obj.cells #[Value.bool qs, Value.slice qq1 qr1 qs1, Value.slice qq2 qr2 qs2] 27)))
    have Bp_9 := Lib.hid (Bp_8.out.kp (Kp.alloc _ (Obj.cells #[Value.bool qs, Value.slice qq1 qr1 qs1, Value.slice qq2 qr2 qs2] 27)))
    have Vq_9 := Lib.hid (Vq_l.out.kp (Kp.alloc _ (Obj.cells #[Value.bool qs, Value.slice qq1 qr1 qs1, Value.slice qq2 qr2 qs2] 27)))
    clear T_8 Z_8 Vx_8 Bx_8 Vy_8 By_8 Vp_8 Bp_8 Vq_l
    obtain ⟨xz0, xz1, xz2⟩ := T_9.out.ra.cells
    obtain ⟨yz0, yz1, yz2⟩ := T_9.out.rb.cells
    obtain ⟨xg0, xg1, xg2, _⟩ := Bx_9.out.cells
    obtain ⟨yg0, yg1, yg2, _⟩ := By_9.out.cells
    obtain ⟨pg0, pg1, pg2, _⟩ := Bp_9.out.cells
    obtain ⟨qg0, qg1, qg2, _⟩ := Bq_l.out.cells
    go_upto_region 6 with fail
    have T_10 := Lib.hid (T_9.out.kp (Below.refl _ _).drew)
    have Z_10 := Lib.hid (Z_9.out.kp (Below.refl _ _).drew)
    have Vx_10 := Lib.hid (Vx_9.out.kp (Below.refl _ _).drew)
    have Bx_10 := Lib.hid (Bx_9.out.kp (Below.refl _ _).drew)
    have Vy_10 := Lib.hid (Vy_9.out.kp (Below.refl _ _).drew)
    have By_10 := Lib.hid (By_9.out.kp (Below.refl _ _).drew)
    have Vp_10 := Lib.hid (Vp_9.out.kp (Below.refl _ _).drew)
    have Bp_10 := Lib.hid (Bp_9.out.kp (Below.refl _ _).drew)
    have Vq_10 := Lib.hid (Vq_9.out.kp (Below.refl _ _).drew)
    have Bq_10 := Lib.hid (Bq_l.out.kp (Below.refl _ _).drew)
    clear T_9 Z_9 Vx_9 Bx_9 Vy_9 By_9 Vp_9 Bp_9 Vq_9 Bq_l
    obtain ⟨S, hS⟩ : ∃ S : Plan, S = ⟨[(0, .agg #[.bool xs, .slice xq1 xr1 xs1, .slice xq2 xr2 xs2]), (1, .agg #[.bool ys, .slice yq1 yr1 ys1, .slice yq2 yr2 ys2]), (3, .agg #[.bool xs, .slice xq1 xr1 xs1, .slice xq2 xr2 xs2]), (4, .agg #[.bool ys, .slice yq1 yr1 ys1, .slice yq2 yr2 ys2]), (6, .bool true), (7, .bool true), (8, .agg #[.bool xs, .slice xq1 xr1 xs1, .slice xq2 xr2 xs2]), (9, .agg #[.bool ys, .slice yq1 yr1 ys1, .slice yq2 yr2 ys2]), (11, .agg #[.bool xs, .slice xq1 xr1 xs1, .slice xq2 xr2 xs2]), (12, .agg #[.bool ys, .slice yq1 yr1 ys1, .slice yq2 yr2 ys2]), (14, .bool true), (15, .bool true), (16, .bool true), (17, .agg #[.bool xs, .slice xq1 xr1 xs1, .slice xq2 xr2 xs2]), (18, .agg #[.bool ys, .slice yq1 yr1 ys1, .slice yq2 yr2 ys2]), (20, .agg #[.bool xs, .slice xq1 xr1 xs1, .slice xq2 xr2 xs2]), (21, .agg #[.bool ys, .slice yq1 yr1 ys1, .slice yq2 yr2 ys2]), (23, .bool true), (24, .bool true), (25, .bool true), (26, .int .i64 3), (27, .int .i64 3), (28, .bool true), (29, .bool true), (30, .bool true), (31, .agg #[.bool ps, .slice pq1 pr1 ps1, .slice pq2 pr2 ps2]), (32, .agg #[.bool qs, .slice qq1 qr1 qs1, .slice qq2 qr2 qs2]), (33, .bool true), (34, .bool true), (35, .bool true), (36, .bool true), (37, .bool true), (38, .bool true)], [(2, (Xx + Xy)), (5, (Xx + Xy)), (10, (Xx - Xy)), (13, (Xx - Xy)), (19, (Xx * Xy)), (22, (Xx * Xy))], [], []⟩ := ⟨_, rfl⟩
    have HS := Lib.hid hS
    clear hS
    refine' wp_region_inv (F := _) (by kernel_rfl) (by kernel_rfl) (by kernel_rfl) (PJ S _) (PJ.begin _ _ _) ?hF ?hsteps ?hend
    case hF => intro f; (try simp only [List.append]); simp only [putAll, Act.put, List.setIfInBounds_toArray, List.set_cons_zero, List.set_cons_succ, Nat.zero_add, Nat.reduceAdd]; exact rfl
    case hsteps =>
      try simp only [List.append]
      refine StepsJ.cons ?_ ?_
      · intro b f w1 hb hw hJ K hK
        have HB := Lib.hid hb
        have HJ := Lib.hid hJ
        have HW := Lib.hid hw
        clear hJ hw hb
        try dsimp only
        rw [if_pos (by rfl)]
        obtain ⟨xg0, xg1, xg2, _⟩ := (Bx_10.out.kp HJ.out.k).cells
        go_simp
        exact hK.out _ (.agg #[.bool xs, .slice xq1 xr1 xs1, .slice xq2 xr2 xs2]) _ (by (try dsimp only) <;> simp only [Act.put, List.setIfInBounds_toArray, List.set_cons_zero, List.set_cons_succ]) (HJ.out.pureStep 0 _ HB.out (by rw [HS.out]; rfl) (by rw [HS.out]; rfl) (by rw [HS.out]; rfl) (by rw [HS.out]; rfl))
      refine StepsJ.cons ?_ ?_
      · intro b f w1 hb hw hJ K hK
        have HB := Lib.hid hb
        have HJ := Lib.hid hJ
        have HW := Lib.hid hw
        clear hJ hw hb
        try dsimp only
        rw [if_pos (by rfl)]
        obtain ⟨yg0, yg1, yg2, _⟩ := (By_10.out.kp HJ.out.k).cells
        go_simp
        exact hK.out _ (.agg #[.bool ys, .slice yq1 yr1 ys1, .slice yq2 yr2 ys2]) _ (by (try dsimp only) <;> simp only [Act.put, List.setIfInBounds_toArray, List.set_cons_zero, List.set_cons_succ]) (HJ.out.pureStep 1 _ HB.out (by rw [HS.out]; rfl) (by rw [HS.out]; rfl) (by rw [HS.out]; rfl) (by rw [HS.out]; rfl))
      refine StepsJ.cons ?_ ?_
      · intro b f w1 hb hw hJ K hK
        have HB := Lib.hid hb
        have HJ := Lib.hid hJ
        have HW := Lib.hid hw
        clear hJ hw hb
        try dsimp only
        have e0 : f 0 = .agg #[.bool xs, .slice xq1 xr1 xs1, .slice xq2 xr2 xs2] := HJ.out.pure 0 _ (by rw [HS.out]; rfl) (HW.out 0 (by decide))
        have e1 : f 1 = .agg #[.bool ys, .slice yq1 yr1 ys1, .slice yq2 yr2 ys2] := HJ.out.pure 1 _ (by rw [HS.out]; rfl) (HW.out 1 (by decide))
        simp only [e0, e1]
        rw [if_pos (by rfl)]
        go_simp
        go_at_call 27
        (with_reducible refine (C1.out _ _ _ (Vx_10.out.kp HJ.out.k) (Vy_10.out.kp HJ.out.k) (Z_10.out.kp HJ.out.k)).mono ?_)
        rintro e w2 ⟨vr, rfl, hr, kk⟩
        exact hK.out _ vr _ (by (try dsimp only) <;> simp only [Act.put, List.setIfInBounds_toArray, List.set_cons_zero, List.set_cons_succ, e0, e1]) (HJ.out.callStep 2 vr _ HB.out kk hr (by rw [HS.out]; rfl) (by rw [HS.out]; rfl) (by rw [HS.out]; rfl) (by rw [HS.out]; rfl))
      refine StepsJ.cons ?_ ?_
      · intro b f w1 hb hw hJ K hK
        have HB := Lib.hid hb
        have HJ := Lib.hid hJ
        have HW := Lib.hid hw
        clear hJ hw hb
        try dsimp only
        rw [if_pos (by rfl)]
        obtain ⟨xg0, xg1, xg2, _⟩ := (Bx_10.out.kp HJ.out.k).cells
        go_simp
        exact hK.out _ (.agg #[.bool xs, .slice xq1 xr1 xs1, .slice xq2 xr2 xs2]) _ (by (try dsimp only) <;> simp only [Act.put, List.setIfInBounds_toArray, List.set_cons_zero, List.set_cons_succ]) (HJ.out.pureStep 3 _ HB.out (by rw [HS.out]; rfl) (by rw [HS.out]; rfl) (by rw [HS.out]; rfl) (by rw [HS.out]; rfl))
      refine StepsJ.cons ?_ ?_
      · intro b f w1 hb hw hJ K hK
        have HB := Lib.hid hb
        have HJ := Lib.hid hJ
        have HW := Lib.hid hw
        clear hJ hw hb
        try dsimp only
        rw [if_pos (by rfl)]
        obtain ⟨yg0, yg1, yg2, _⟩ := (By_10.out.kp HJ.out.k).cells
        go_simp
        exact hK.out _ (.agg #[.bool ys, .slice yq1 yr1 ys1, .slice yq2 yr2 ys2]) _ (by (try dsimp only) <;> simp only [Act.put, List.setIfInBounds_toArray, List.set_cons_zero, List.set_cons_succ]) (HJ.out.pureStep 4 _ HB.out (by rw [HS.out]; rfl) (by rw [HS.out]; rfl) (by rw [HS.out]; rfl) (by rw [HS.out]; rfl))
      refine StepsJ.cons ?_ ?_
      · intro b f w1 hb hw hJ K hK
        have HB := Lib.hid hb
        have HJ := Lib.hid hJ
        have HW := Lib.hid hw
        clear hJ hw hb
        try dsimp only
        have e3 : f 3 = .agg #[.bool xs, .slice xq1 xr1 xs1, .slice xq2 xr2 xs2] := HJ.out.pure 3 _ (by rw [HS.out]; rfl) (HW.out 3 (by decide))
        have e4 : f 4 = .agg #[.bool ys, .slice yq1 yr1 ys1, .slice yq2 yr2 ys2] := HJ.out.pure 4 _ (by rw [HS.out]; rfl) (HW.out 4 (by decide))
        simp only [e3, e4]
        rw [if_pos (by rfl)]
        go_simp
        go_at_call 28
        (with_reducible refine (C2.out _ _ _ (Vx_10.out.kp HJ.out.k) (Vy_10.out.kp HJ.out.k)).mono ?_)
        rintro e w2 ⟨vr, rfl, hr, kk⟩
        exact hK.out _ vr _ (by (try dsimp only) <;> simp only [Act.put, List.setIfInBounds_toArray, List.set_cons_zero, List.set_cons_succ, e3, e4]) (HJ.out.callStep 5 vr _ HB.out kk hr (by rw [HS.out]; rfl) (by rw [HS.out]; rfl) (by rw [HS.out]; rfl) (by rw [HS.out]; rfl))
      refine StepsJ.cons ?_ ?_
      · intro b f w1 hb hw hJ K hK
        have HB := Lib.hid hb
        have HJ := Lib.hid hJ
        have HW := Lib.hid hw
        clear hJ hw hb
        try dsimp only
        rw [if_pos (by rfl)]
        have a2 := HJ.out.call 2 _ (by rw [HS.out]; rfl) (HW.out 2 (by decide))
        have a5 := HJ.out.call 5 _ (by rw [HS.out]; rfl) (HW.out 5 (by decide))
        have Ha2 := Lib.hid a2
        clear a2
        have Ha5 := Lib.hid a5
        clear a5
        go_simp
        go_at_call 19
        (with_reducible refine (C3.out _ _ _ Ha2.out Ha5.out).mono ?_)
        rintro e w2 ⟨rfl, kk⟩
        exact hK.out _ (.bool true) _ (by (try dsimp only) <;> simp only [Act.put, List.setIfInBounds_toArray, List.set_cons_zero, List.set_cons_succ]) ((HJ.out.later kk).pureStep 6 _ HB.out (by rw [HS.out]; rfl) (by rw [HS.out]; rfl) (by rw [HS.out]; rfl) (by rw [HS.out]; rfl))
      refine StepsJ.cons ?_ ?_
      · intro b f w1 hb hw hJ K hK
        have HB := Lib.hid hb
        have HJ := Lib.hid hJ
        have HW := Lib.hid hw
        clear hJ hw hb
        try dsimp only
        have e6 : f 6 = .bool true := HJ.out.pure 6 _ (by rw [HS.out]; rfl) (HW.out 6 (by decide))
        simp only [e6]
        rw [if_pos (by rfl)]
        go_simp
        exact hK.out _ (.bool true) _ (by (try dsimp only) <;> simp only [Act.put, List.setIfInBounds_toArray, List.set_cons_zero, List.set_cons_succ, e6]) (HJ.out.pureStep 7 _ HB.out (by rw [HS.out]; rfl) (by rw [HS.out]; rfl) (by rw [HS.out]; rfl) (by rw [HS.out]; rfl))
      refine StepsJ.cons ?_ ?_
      · intro b f w1 hb hw hJ K hK
        have HB := Lib.hid hb
        have HJ := Lib.hid hJ
        have HW := Lib.hid hw
        clear hJ hw hb
        try dsimp only
        have e7 : f 7 = .bool true := HJ.out.pure 7 _ (by rw [HS.out]; rfl) (HW.out 7 (by decide))
        simp only [e7]
        rw [if_pos (by rfl)]
        obtain ⟨xg0, xg1, xg2, _⟩ := (Bx_10.out.kp HJ.out.k).cells
        go_simp
        exact hK.out _ (.agg #[.bool xs, .slice xq1 xr1 xs1, .slice xq2 xr2 xs2]) _ (by (try dsimp only) <;> simp only [Act.put, List.setIfInBounds_toArray, List.set_cons_zero, List.set_cons_succ, e7]) (HJ.out.pureStep 8 _ HB.out (by rw [HS.out]; rfl) (by rw [HS.out]; rfl) (by rw [HS.out]; rfl) (by rw [HS.out]; rfl))
      refine StepsJ.cons ?_ ?_
      · intro b f w1 hb hw hJ K hK
        have HB := Lib.hid hb
        have HJ := Lib.hid hJ
        have HW := Lib.hid hw
        clear hJ hw hb
        try dsimp only
        have e7 : f 7 = .bool true := HJ.out.pure 7 _ (by rw [HS.out]; rfl) (HW.out 7 (by decide))
        simp only [e7]
        rw [if_pos (by rfl)]
        obtain ⟨yg0, yg1, yg2, _⟩ := (By_10.out.kp HJ.out.k).cells
        go_simp
        exact hK.out _ (.agg #[.bool ys, .slice yq1 yr1 ys1, .slice yq2 yr2 ys2]) _ (by (try dsimp only) <;> simp only [Act.put, List.setIfInBounds_toArray, List.set_cons_zero, List.set_cons_succ, e7]) (HJ.out.pureStep 9 _ HB.out (by rw [HS.out]; rfl) (by rw [HS.out]; rfl) (by rw [HS.out]; rfl) (by rw [HS.out]; rfl))
      refine StepsJ.cons ?_ ?_
      · intro b f w1 hb hw hJ K hK
        have HB := Lib.hid hb
        have HJ := Lib.hid hJ
        have HW := Lib.hid hw
        clear hJ hw hb
        try dsimp only
        have e7 : f 7 = .bool true := HJ.out.pure 7 _ (by rw [HS.out]; rfl) (HW.out 7 (by decide))
        have e8 : f 8 = .agg #[.bool xs, .slice xq1 xr1 xs1, .slice xq2 xr2 xs2] := HJ.out.pure 8 _ (by rw [HS.out]; rfl) (HW.out 8 (by decide))
        have e9 : f 9 = .agg #[.bool ys, .slice yq1 yr1 ys1, .slice yq2 yr2 ys2] := HJ.out.pure 9 _ (by rw [HS.out]; rfl) (HW.out 9 (by decide))
        simp only [e7, e8, e9]
        rw [if_pos (by rfl)]
        go_simp
        go_at_call 29
        (with_reducible refine (C4.out _ _ _ (Vx_10.out.kp HJ.out.k) (Vy_10.out.kp HJ.out.k) (Z_10.out.kp HJ.out.k)).mono ?_)
        rintro e w2 ⟨vr, rfl, hr, kk⟩
        exact hK.out _ vr _ (by (try dsimp only) <;> simp only [Act.put, List.setIfInBounds_toArray, List.set_cons_zero, List.set_cons_succ, e7, e8, e9]) (HJ.out.callStep 10 vr _ HB.out kk hr (by rw [HS.out]; rfl) (by rw [HS.out]; rfl) (by rw [HS.out]; rfl) (by rw [HS.out]; rfl))
      refine StepsJ.cons ?_ ?_
      · intro b f w1 hb hw hJ K hK
        have HB := Lib.hid hb
        have HJ := Lib.hid hJ
        have HW := Lib.hid hw
        clear hJ hw hb
        try dsimp only
        have e7 : f 7 = .bool true := HJ.out.pure 7 _ (by rw [HS.out]; rfl) (HW.out 7 (by decide))
        simp only [e7]
        rw [if_pos (by rfl)]
        obtain ⟨xg0, xg1, xg2, _⟩ := (Bx_10.out.kp HJ.out.k).cells
        go_simp
        exact hK.out _ (.agg #[.bool xs, .slice xq1 xr1 xs1, .slice xq2 xr2 xs2]) _ (by (try dsimp only) <;> simp only [Act.put, List.setIfInBounds_toArray, List.set_cons_zero, List.set_cons_succ, e7]) (HJ.out.pureStep 11 _ HB.out (by rw [HS.out]; rfl) (by rw [HS.out]; rfl) (by rw [HS.out]; rfl) (by rw [HS.out]; rfl))
      refine StepsJ.cons ?_ ?_
      · intro b f w1 hb hw hJ K hK
        have HB := Lib.hid hb
        have HJ := Lib.hid hJ
        have HW := Lib.hid hw
        clear hJ hw hb
        try dsimp only
        have e7 : f 7 = .bool true := HJ.out.pure 7 _ (by rw [HS.out]; rfl) (HW.out 7 (by decide))
        simp only [e7]
        rw [if_pos (by rfl)]
        obtain ⟨yg0, yg1, yg2, _⟩ := (By_10.out.kp HJ.out.k).cells
        go_simp
        exact hK.out _ (.agg #[.bool ys, .slice yq1 yr1 ys1, .slice yq2 yr2 ys2]) _ (by (try dsimp only) <;> simp only [Act.put, List.setIfInBounds_toArray, List.set_cons_zero, List.set_cons_succ, e7]) (HJ.out.pureStep 12 _ HB.out (by rw [HS.out]; rfl) (by rw [HS.out]; rfl) (by rw [HS.out]; rfl) (by rw [HS.out]; rfl))
      refine StepsJ.cons ?_ ?_
      · intro b f w1 hb hw hJ K hK
        have HB := Lib.hid hb
        have HJ := Lib.hid hJ
        have HW := Lib.hid hw
        clear hJ hw hb
        try dsimp only
        have e7 : f 7 = .bool true := HJ.out.pure 7 _ (by rw [HS.out]; rfl) (HW.out 7 (by decide))
        have e11 : f 11 = .agg #[.bool xs, .slice xq1 xr1 xs1, .slice xq2 xr2 xs2] := HJ.out.pure 11 _ (by rw [HS.out]; rfl) (HW.out 11 (by decide))
        have e12 : f 12 = .agg #[.bool ys, .slice yq1 yr1 ys1, .slice yq2 yr2 ys2] := HJ.out.pure 12 _ (by rw [HS.out]; rfl) (HW.out 12 (by decide))
        simp only [e7, e11, e12]
        rw [if_pos (by rfl)]
        go_simp
        go_at_call 30
        (with_reducible refine (C5.out _ _ _ (Vx_10.out.kp HJ.out.k) (Vy_10.out.kp HJ.out.k)).mono ?_)
        rintro e w2 ⟨vr, rfl, hr, kk⟩
        exact hK.out _ vr _ (by (try dsimp only) <;> simp only [Act.put, List.setIfInBounds_toArray, List.set_cons_zero, List.set_cons_succ, e7, e11, e12]) (HJ.out.callStep 13 vr _ HB.out kk hr (by rw [HS.out]; rfl) (by rw [HS.out]; rfl) (by rw [HS.out]; rfl) (by rw [HS.out]; rfl))
      refine StepsJ.cons ?_ ?_
      · intro b f w1 hb hw hJ K hK
        have HB := Lib.hid hb
        have HJ := Lib.hid hJ
        have HW := Lib.hid hw
        clear hJ hw hb
        try dsimp only
        have e7 : f 7 = .bool true := HJ.out.pure 7 _ (by rw [HS.out]; rfl) (HW.out 7 (by decide))
        simp only [e7]
        rw [if_pos (by rfl)]
        have a10 := HJ.out.call 10 _ (by rw [HS.out]; rfl) (HW.out 10 (by decide))
        have a13 := HJ.out.call 13 _ (by rw [HS.out]; rfl) (HW.out 13 (by decide))
        have Ha10 := Lib.hid a10
        clear a10
        have Ha13 := Lib.hid a13
        clear a13
        go_simp
        go_at_call 19
        (with_reducible refine (C6.out _ _ _ Ha10.out Ha13.out).mono ?_)
        rintro e w2 ⟨rfl, kk⟩
        exact hK.out _ (.bool true) _ (by (try dsimp only) <;> simp only [Act.put, List.setIfInBounds_toArray, List.set_cons_zero, List.set_cons_succ, e7]) ((HJ.out.later kk).pureStep 14 _ HB.out (by rw [HS.out]; rfl) (by rw [HS.out]; rfl) (by rw [HS.out]; rfl) (by rw [HS.out]; rfl))
      refine StepsJ.cons ?_ ?_
      · intro b f w1 hb hw hJ K hK
        have HB := Lib.hid hb
        have HJ := Lib.hid hJ
        have HW := Lib.hid hw
        clear hJ hw hb
        try dsimp only
        have e7 : f 7 = .bool true := HJ.out.pure 7 _ (by rw [HS.out]; rfl) (HW.out 7 (by decide))
        have e14 : f 14 = .bool true := HJ.out.pure 14 _ (by rw [HS.out]; rfl) (HW.out 14 (by decide))
        simp only [e7, e14]
        rw [if_pos (by rfl)]
        go_simp
        exact hK.out _ (.bool true) _ (by (try dsimp only) <;> simp only [Act.put, List.setIfInBounds_toArray, List.set_cons_zero, List.set_cons_succ, e7, e14]) (HJ.out.pureStep 15 _ HB.out (by rw [HS.out]; rfl) (by rw [HS.out]; rfl) (by rw [HS.out]; rfl) (by rw [HS.out]; rfl))
      refine StepsJ.cons ?_ ?_
      · intro b f w1 hb hw hJ K hK
        have HB := Lib.hid hb
        have HJ := Lib.hid hJ
        have HW := Lib.hid hw
        clear hJ hw hb
        try dsimp only
        have e15 : f 15 = .bool true := HJ.out.pure 15 _ (by rw [HS.out]; rfl) (HW.out 15 (by decide))
        simp only [e15]
        rw [if_pos (by rfl)]
        go_simp
        exact hK.out _ (.bool true) _ (by (try dsimp only) <;> simp only [Act.put, List.setIfInBounds_toArray, List.set_cons_zero, List.set_cons_succ, e15]) (HJ.out.pureStep 16 _ HB.out (by rw [HS.out]; rfl) (by rw [HS.out]; rfl) (by rw [HS.out]; rfl) (by rw [HS.out]; rfl))
      refine StepsJ.cons ?_ ?_
      · intro b f w1 hb hw hJ K hK
        have HB := Lib.hid hb
        have HJ := Lib.hid hJ
        have HW := Lib.hid hw
        clear hJ hw hb
        try dsimp only
        have e16 : f 16 = .bool true := HJ.out.pure 16 _ (by rw [HS.out]; rfl) (HW.out 16 (by decide))
        simp only [e16]
        rw [if_pos (by rfl)]
        obtain ⟨xg0, xg1, xg2, _⟩ := (Bx_10.out.kp HJ.out.k).cells
        go_simp
        exact hK.out _ (.agg #[.bool xs, .slice xq1 xr1 xs1, .slice xq2 xr2 xs2]) _ (by (try dsimp only) <;> simp only [Act.put, List.setIfInBounds_toArray, List.set_cons_zero, List.set_cons_succ, e16]) (HJ.out.pureStep 17 _ HB.out (by rw [HS.out]; rfl) (by rw [HS.out]; rfl) (by rw [HS.out]; rfl) (by rw [HS.out]; rfl))
      refine StepsJ.cons ?_ ?_
      · intro b f w1 hb hw hJ K hK
        have HB := Lib.hid hb
        have HJ := Lib.hid hJ
        have HW := Lib.hid hw
        clear hJ hw hb
        try dsimp only
        have e16 : f 16 = .bool true := HJ.out.pure 16 _ (by rw [HS.out]; rfl) (HW.out 16 (by decide))
        simp only [e16]
        rw [if_pos (by rfl)]
        obtain ⟨yg0, yg1, yg2, _⟩ := (By_10.out.kp HJ.out.k).cells
        go_simp
        exact hK.out _ (.agg #[.bool ys, .slice yq1 yr1 ys1, .slice yq2 yr2 ys2]) _ (by (try dsimp only) <;> simp only [Act.put, List.setIfInBounds_toArray, List.set_cons_zero, List.set_cons_succ, e16]) (HJ.out.pureStep 18 _ HB.out (by rw [HS.out]; rfl) (by rw [HS.out]; rfl) (by rw [HS.out]; rfl) (by rw [HS.out]; rfl))
      refine StepsJ.cons ?_ ?_
      · intro b f w1 hb hw hJ K hK
        have HB := Lib.hid hb
        have HJ := Lib.hid hJ
        have HW := Lib.hid hw
        clear hJ hw hb
        try dsimp only
        have e16 : f 16 = .bool true := HJ.out.pure 16 _ (by rw [HS.out]; rfl) (HW.out 16 (by decide))
        have e17 : f 17 = .agg #[.bool xs, .slice xq1 xr1 xs1, .slice xq2 xr2 xs2] := HJ.out.pure 17 _ (by rw [HS.out]; rfl) (HW.out 17 (by decide))
        have e18 : f 18 = .agg #[.bool ys, .slice yq1 yr1 ys1, .slice yq2 yr2 ys2] := HJ.out.pure 18 _ (by rw [HS.out]; rfl) (HW.out 18 (by decide))
        simp only [e16, e17, e18]
        rw [if_pos (by rfl)]
        go_simp
        go_at_call 31
        (with_reducible refine (C7.out _ _ _ (Vx_10.out.kp HJ.out.k) (Vy_10.out.kp HJ.out.k) (Z_10.out.kp HJ.out.k)).mono ?_)
        rintro e w2 ⟨vr, rfl, hr, kk⟩
        exact hK.out _ vr _ (by (try dsimp only) <;> simp only [Act.put, List.setIfInBounds_toArray, List.set_cons_zero, List.set_cons_succ, e16, e17, e18]) (HJ.out.callStep 19 vr _ HB.out kk hr (by rw [HS.out]; rfl) (by rw [HS.out]; rfl) (by rw [HS.out]; rfl) (by rw [HS.out]; rfl))
      refine StepsJ.cons ?_ ?_
      · intro b f w1 hb hw hJ K hK
        have HB := Lib.hid hb
        have HJ := Lib.hid hJ
        have HW := Lib.hid hw
        clear hJ hw hb
        try dsimp only
        have e16 : f 16 = .bool true := HJ.out.pure 16 _ (by rw [HS.out]; rfl) (HW.out 16 (by decide))
        simp only [e16]
        rw [if_pos (by rfl)]
        obtain ⟨xg0, xg1, xg2, _⟩ := (Bx_10.out.kp HJ.out.k).cells
        go_simp
        exact hK.out _ (.agg #[.bool xs, .slice xq1 xr1 xs1, .slice xq2 xr2 xs2]) _ (by (try dsimp only) <;> simp only [Act.put, List.setIfInBounds_toArray, List.set_cons_zero, List.set_cons_succ, e16]) (HJ.out.pureStep 20 _ HB.out (by rw [HS.out]; rfl) (by rw [HS.out]; rfl) (by rw [HS.out]; rfl) (by rw [HS.out]; rfl))
      refine StepsJ.cons ?_ ?_
      · intro b f w1 hb hw hJ K hK
        have HB := Lib.hid hb
        have HJ := Lib.hid hJ
        have HW := Lib.hid hw
        clear hJ hw hb
        try dsimp only
        have e16 : f 16 = .bool true := HJ.out.pure 16 _ (by rw [HS.out]; rfl) (HW.out 16 (by decide))
        simp only [e16]
        rw [if_pos (by rfl)]
        obtain ⟨yg0, yg1, yg2, _⟩ := (By_10.out.kp HJ.out.k).cells
        go_simp
        exact hK.out _ (.agg #[.bool ys, .slice yq1 yr1 ys1, .slice yq2 yr2 ys2]) _ (by (try dsimp only) <;> simp only [Act.put, List.setIfInBounds_toArray, List.set_cons_zero, List.set_cons_succ, e16]) (HJ.out.pureStep 21 _ HB.out (by rw [HS.out]; rfl) (by rw [HS.out]; rfl) (by rw [HS.out]; rfl) (by rw [HS.out]; rfl))
      refine StepsJ.cons ?_ ?_
      · intro b f w1 hb hw hJ K hK
        have HB := Lib.hid hb
        have HJ := Lib.hid hJ
        have HW := Lib.hid hw
        clear hJ hw hb
        try dsimp only
        have e16 : f 16 = .bool true := HJ.out.pure 16 _ (by rw [HS.out]; rfl) (HW.out 16 (by decide))
        have e20 : f 20 = .agg #[.bool xs, .slice xq1 xr1 xs1, .slice xq2 xr2 xs2] := HJ.out.pure 20 _ (by rw [HS.out]; rfl) (HW.out 20 (by decide))
        have e21 : f 21 = .agg #[.bool ys, .slice yq1 yr1 ys1, .slice yq2 yr2 ys2] := HJ.out.pure 21 _ (by rw [HS.out]; rfl) (HW.out 21 (by decide))
        simp only [e16, e20, e21]
        rw [if_pos (by rfl)]
        go_simp
        go_at_call 32
        (with_reducible refine (C8.out _ _ _ (Vx_10.out.kp HJ.out.k) (Vy_10.out.kp HJ.out.k)).mono ?_)
        rintro e w2 ⟨vr, rfl, hr, kk⟩
        exact hK.out _ vr _ (by (try dsimp only) <;> simp only [Act.put, List.setIfInBounds_toArray, List.set_cons_zero, List.set_cons_succ, e16, e20, e21]) (HJ.out.callStep 22 vr _ HB.out kk hr (by rw [HS.out]; rfl) (by rw [HS.out]; rfl) (by rw [HS.out]; rfl) (by rw [HS.out]; rfl))
      refine StepsJ.cons ?_ ?_
      · intro b f w1 hb hw hJ K hK
        have HB := Lib.hid hb
        have HJ := Lib.hid hJ
        have HW := Lib.hid hw
        clear hJ hw hb
        try dsimp only
        have e16 : f 16 = .bool true := HJ.out.pure 16 _ (by rw [HS.out]; rfl) (HW.out 16 (by decide))
        simp only [e16]
        rw [if_pos (by rfl)]
        have a19 := HJ.out.call 19 _ (by rw [HS.out]; rfl) (HW.out 19 (by decide))
        have a22 := HJ.out.call 22 _ (by rw [HS.out]; rfl) (HW.out 22 (by decide))
        have Ha19 := Lib.hid a19
        clear a19
        have Ha22 := Lib.hid a22
        clear a22
        go_simp
        go_at_call 19
        (with_reducible refine (C9.out _ _ _ Ha19.out Ha22.out).mono ?_)
        rintro e w2 ⟨rfl, kk⟩
        exact hK.out _ (.bool true) _ (by (try dsimp only) <;> simp only [Act.put, List.setIfInBounds_toArray, List.set_cons_zero, List.set_cons_succ, e16]) ((HJ.out.later kk).pureStep 23 _ HB.out (by rw [HS.out]; rfl) (by rw [HS.out]; rfl) (by rw [HS.out]; rfl) (by rw [HS.out]; rfl))
      refine StepsJ.cons ?_ ?_
      · intro b f w1 hb hw hJ K hK
        have HB := Lib.hid hb
        have HJ := Lib.hid hJ
        have HW := Lib.hid hw
        clear hJ hw hb
        try dsimp only
        have e16 : f 16 = .bool true := HJ.out.pure 16 _ (by rw [HS.out]; rfl) (HW.out 16 (by decide))
        have e23 : f 23 = .bool true := HJ.out.pure 23 _ (by rw [HS.out]; rfl) (HW.out 23 (by decide))
        simp only [e16, e23]
        rw [if_pos (by rfl)]
        go_simp
        exact hK.out _ (.bool true) _ (by (try dsimp only) <;> simp only [Act.put, List.setIfInBounds_toArray, List.set_cons_zero, List.set_cons_succ, e16, e23]) (HJ.out.pureStep 24 _ HB.out (by rw [HS.out]; rfl) (by rw [HS.out]; rfl) (by rw [HS.out]; rfl) (by rw [HS.out]; rfl))
      refine StepsJ.cons ?_ ?_
      · intro b f w1 hb hw hJ K hK
        have HB := Lib.hid hb
        have HJ := Lib.hid hJ
        have HW := Lib.hid hw
        clear hJ hw hb
        try dsimp only
        have e24 : f 24 = .bool true := HJ.out.pure 24 _ (by rw [HS.out]; rfl) (HW.out 24 (by decide))
        simp only [e24]
        rw [if_pos (by rfl)]
        go_simp
        exact hK.out _ (.bool true) _ (by (try dsimp only) <;> simp only [Act.put, List.setIfInBounds_toArray, List.set_cons_zero, List.set_cons_succ, e24]) (HJ.out.pureStep 25 _ HB.out (by rw [HS.out]; rfl) (by rw [HS.out]; rfl) (by rw [HS.out]; rfl) (by rw [HS.out]; rfl))
      refine StepsJ.cons ?_ ?_
      · intro b f w1 hb hw hJ K hK
        have HB := Lib.hid hb
        have HJ := Lib.hid hJ
        have HW := Lib.hid hw
        clear hJ hw hb
        try dsimp only
        have e25 : f 25 = .bool true := HJ.out.pure 25 _ (by rw [HS.out]; rfl) (HW.out 25 (by decide))
        simp only [e25]
        rw [if_pos (by rfl)]
        go_simp
        exact hK.out _ (.int .i64 3) _ (by (try dsimp only) <;> simp only [Act.put, List.setIfInBounds_toArray, List.set_cons_zero, List.set_cons_succ, e25]) (HJ.out.pureStep 26 _ HB.out (by rw [HS.out]; rfl) (by rw [HS.out]; rfl) (by rw [HS.out]; rfl) (by rw [HS.out]; rfl))
      refine StepsJ.cons ?_ ?_
      · intro b f w1 hb hw hJ K hK
        have HB := Lib.hid hb
        have HJ := Lib.hid hJ
        have HW := Lib.hid hw
        clear hJ hw hb
        try dsimp only
        have e25 : f 25 = .bool true := HJ.out.pure 25 _ (by rw [HS.out]; rfl) (HW.out 25 (by decide))
        simp only [e25]
        rw [if_pos (by rfl)]
        go_simp
        exact hK.out _ (.int .i64 3) _ (by (try dsimp only) <;> simp only [Act.put, List.setIfInBounds_toArray, List.set_cons_zero, List.set_cons_succ, e25]) (HJ.out.pureStep 27 _ HB.out (by rw [HS.out]; rfl) (by rw [HS.out]; rfl) (by rw [HS.out]; rfl) (by rw [HS.out]; rfl))
      refine StepsJ.cons ?_ ?_
      · intro b f w1 hb hw hJ K hK
        have HB := Lib.hid hb
        have HJ := Lib.hid hJ
        have HW := Lib.hid hw
        clear hJ hw hb
        try dsimp only
        have e25 : f 25 = .bool true := HJ.out.pure 25 _ (by rw [HS.out]; rfl) (HW.out 25 (by decide))
        have e26 : f 26 = .int .i64 3 := HJ.out.pure 26 _ (by rw [HS.out]; rfl) (HW.out 26 (by decide))
        have e27 : f 27 = .int .i64 3 := HJ.out.pure 27 _ (by rw [HS.out]; rfl) (HW.out 27 (by decide))
        simp only [e25, e26, e27]
        rw [if_pos (by rfl)]
        go_simp
        exact hK.out _ (.bool true) _ (by (try dsimp only) <;> simp only [Act.put, List.setIfInBounds_toArray, List.set_cons_zero, List.set_cons_succ, e25, e26, e27]) (HJ.out.pureStep 28 _ HB.out (by rw [HS.out]; rfl) (by rw [HS.out]; rfl) (by rw [HS.out]; rfl) (by rw [HS.out]; rfl))
      refine StepsJ.cons ?_ ?_
      · intro b f w1 hb hw hJ K hK
        have HB := Lib.hid hb
        have HJ := Lib.hid hJ
        have HW := Lib.hid hw
        clear hJ hw hb
        try dsimp only
        have e25 : f 25 = .bool true := HJ.out.pure 25 _ (by rw [HS.out]; rfl) (HW.out 25 (by decide))
        have e28 : f 28 = .bool true := HJ.out.pure 28 _ (by rw [HS.out]; rfl) (HW.out 28 (by decide))
        simp only [e25, e28]
        rw [if_pos (by rfl)]
        go_simp
        exact hK.out _ (.bool true) _ (by (try dsimp only) <;> simp only [Act.put, List.setIfInBounds_toArray, List.set_cons_zero, List.set_cons_succ, e25, e28]) (HJ.out.pureStep 29 _ HB.out (by rw [HS.out]; rfl) (by rw [HS.out]; rfl) (by rw [HS.out]; rfl) (by rw [HS.out]; rfl))
      refine StepsJ.cons ?_ ?_
      · intro b f w1 hb hw hJ K hK
        have HB := Lib.hid hb
        have HJ := Lib.hid hJ
        have HW := Lib.hid hw
        clear hJ hw hb
        try dsimp only
        have e29 : f 29 = .bool true := HJ.out.pure 29 _ (by rw [HS.out]; rfl) (HW.out 29 (by decide))
        simp only [e29]
        rw [if_pos (by rfl)]
        go_simp
        exact hK.out _ (.bool true) _ (by (try dsimp only) <;> simp only [Act.put, List.setIfInBounds_toArray, List.set_cons_zero, List.set_cons_succ, e29]) (HJ.out.pureStep 30 _ HB.out (by rw [HS.out]; rfl) (by rw [HS.out]; rfl) (by rw [HS.out]; rfl) (by rw [HS.out]; rfl))
      refine StepsJ.cons ?_ ?_
      · intro b f w1 hb hw hJ K hK
        have HB := Lib.hid hb
        have HJ := Lib.hid hJ
        have HW := Lib.hid hw
        clear hJ hw hb
        try dsimp only
        have e30 : f 30 = .bool true := HJ.out.pure 30 _ (by rw [HS.out]; rfl) (HW.out 30 (by decide))
        simp only [e30]
        rw [if_pos (by rfl)]
        obtain ⟨pg0, pg1, pg2, _⟩ := (Bp_10.out.kp HJ.out.k).cells
        go_simp
        exact hK.out _ (.agg #[.bool ps, .slice pq1 pr1 ps1, .slice pq2 pr2 ps2]) _ (by (try dsimp only) <;> simp only [Act.put, List.setIfInBounds_toArray, List.set_cons_zero, List.set_cons_succ, e30]) (HJ.out.pureStep 31 _ HB.out (by rw [HS.out]; rfl) (by rw [HS.out]; rfl) (by rw [HS.out]; rfl) (by rw [HS.out]; rfl))
      refine StepsJ.cons ?_ ?_
      · intro b f w1 hb hw hJ K hK
        have HB := Lib.hid hb
        have HJ := Lib.hid hJ
        have HW := Lib.hid hw
        clear hJ hw hb
        try dsimp only
        have e30 : f 30 = .bool true := HJ.out.pure 30 _ (by rw [HS.out]; rfl) (HW.out 30 (by decide))
        simp only [e30]
        rw [if_pos (by rfl)]
        obtain ⟨qg0, qg1, qg2, _⟩ := (Bq_10.out.kp HJ.out.k).cells
        go_simp
        exact hK.out _ (.agg #[.bool qs, .slice qq1 qr1 qs1, .slice qq2 qr2 qs2]) _ (by (try dsimp only) <;> simp only [Act.put, List.setIfInBounds_toArray, List.set_cons_zero, List.set_cons_succ, e30]) (HJ.out.pureStep 32 _ HB.out (by rw [HS.out]; rfl) (by rw [HS.out]; rfl) (by rw [HS.out]; rfl) (by rw [HS.out]; rfl))
      refine StepsJ.cons ?_ ?_
      · intro b f w1 hb hw hJ K hK
        have HB := Lib.hid hb
        have HJ := Lib.hid hJ
        have HW := Lib.hid hw
        clear hJ hw hb
        try dsimp only
        have e30 : f 30 = .bool true := HJ.out.pure 30 _ (by rw [HS.out]; rfl) (HW.out 30 (by decide))
        have e31 : f 31 = .agg #[.bool ps, .slice pq1 pr1 ps1, .slice pq2 pr2 ps2] := HJ.out.pure 31 _ (by rw [HS.out]; rfl) (HW.out 31 (by decide))
        have e32 : f 32 = .agg #[.bool qs, .slice qq1 qr1 qs1, .slice qq2 qr2 qs2] := HJ.out.pure 32 _ (by rw [HS.out]; rfl) (HW.out 32 (by decide))
        simp only [e30, e31, e32]
        rw [if_pos (by rfl)]
        go_simp
        go_at_call 19
        (with_reducible refine (C10.out _ _ _ (Vp_10.out.kp HJ.out.k) (Vq_10.out.kp HJ.out.k)).mono ?_)
        rintro e w2 ⟨rfl, kk⟩
        exact hK.out _ (.bool true) _ (by (try dsimp only) <;> simp only [Act.put, List.setIfInBounds_toArray, List.set_cons_zero, List.set_cons_succ, e30, e31, e32]) ((HJ.out.later kk).pureStep 33 _ HB.out (by rw [HS.out]; rfl) (by rw [HS.out]; rfl) (by rw [HS.out]; rfl) (by rw [HS.out]; rfl))
      refine StepsJ.cons ?_ ?_
      · intro b f w1 hb hw hJ K hK
        have HB := Lib.hid hb
        have HJ := Lib.hid hJ
        have HW := Lib.hid hw
        clear hJ hw hb
        try dsimp only
        have e30 : f 30 = .bool true := HJ.out.pure 30 _ (by rw [HS.out]; rfl) (HW.out 30 (by decide))
        have e33 : f 33 = .bool true := HJ.out.pure 33 _ (by rw [HS.out]; rfl) (HW.out 33 (by decide))
        simp only [e30, e33]
        rw [if_pos (by rfl)]
        go_simp
        exact hK.out _ (.bool true) _ (by (try dsimp only) <;> simp only [Act.put, List.setIfInBounds_toArray, List.set_cons_zero, List.set_cons_succ, e30, e33]) (HJ.out.pureStep 34 _ HB.out (by rw [HS.out]; rfl) (by rw [HS.out]; rfl) (by rw [HS.out]; rfl) (by rw [HS.out]; rfl))
      refine StepsJ.cons ?_ ?_
      · intro b f w1 hb hw hJ K hK
        have HB := Lib.hid hb
        have HJ := Lib.hid hJ
        have HW := Lib.hid hw
        clear hJ hw hb
        try dsimp only
        have e34 : f 34 = .bool true := HJ.out.pure 34 _ (by rw [HS.out]; rfl) (HW.out 34 (by decide))
        simp only [e34]
        rw [if_pos (by rfl)]
        go_simp
        exact hK.out _ (.bool true) _ (by (try dsimp only) <;> simp only [Act.put, List.setIfInBounds_toArray, List.set_cons_zero, List.set_cons_succ, e34]) (HJ.out.pureStep 35 _ HB.out (by rw [HS.out]; rfl) (by rw [HS.out]; rfl) (by rw [HS.out]; rfl) (by rw [HS.out]; rfl))
      refine StepsJ.cons ?_ ?_
      · intro b f w1 hb hw hJ K hK
        have HB := Lib.hid hb
        have HJ := Lib.hid hJ
        have HW := Lib.hid hw
        clear hJ hw hb
        try dsimp only
        have e35 : f 35 = .bool true := HJ.out.pure 35 _ (by rw [HS.out]; rfl) (HW.out 35 (by decide))
        simp only [e35]
        rw [if_pos (by rfl)]
        go_simp
        go_at_call 14
        (with_reducible refine (CAW.out _ (T_10.out.kp HJ.out.k).k (Z_10.out.kp HJ.out.k)).mono ?_)
        rintro e w2 ⟨rfl, kk⟩
        exact hK.out _ (.bool true) _ (by (try dsimp only) <;> simp only [Act.put, List.setIfInBounds_toArray, List.set_cons_zero, List.set_cons_succ, e35]) ((HJ.out.later kk).pureStep 36 _ HB.out (by rw [HS.out]; rfl) (by rw [HS.out]; rfl) (by rw [HS.out]; rfl) (by rw [HS.out]; rfl))
      refine StepsJ.cons ?_ ?_
      · intro b f w1 hb hw hJ K hK
        have HB := Lib.hid hb
        have HJ := Lib.hid hJ
        have HW := Lib.hid hw
        clear hJ hw hb
        try dsimp only
        have e35 : f 35 = .bool true := HJ.out.pure 35 _ (by rw [HS.out]; rfl) (HW.out 35 (by decide))
        have e36 : f 36 = .bool true := HJ.out.pure 36 _ (by rw [HS.out]; rfl) (HW.out 36 (by decide))
        simp only [e35, e36]
        rw [if_pos (by rfl)]
        go_simp
        exact hK.out _ (.bool true) _ (by (try dsimp only) <;> simp only [Act.put, List.setIfInBounds_toArray, List.set_cons_zero, List.set_cons_succ, e35, e36]) (HJ.out.pureStep 37 _ HB.out (by rw [HS.out]; rfl) (by rw [HS.out]; rfl) (by rw [HS.out]; rfl) (by rw [HS.out]; rfl))
      refine StepsJ.cons ?_ ?_
      · intro b f w1 hb hw hJ K hK
        have HB := Lib.hid hb
        have HJ := Lib.hid hJ
        have HW := Lib.hid hw
        clear hJ hw hb
        try dsimp only
        have e37 : f 37 = .bool true := HJ.out.pure 37 _ (by rw [HS.out]; rfl) (HW.out 37 (by decide))
        simp only [e37]
        rw [if_pos (by rfl)]
        go_simp
        exact hK.out _ (.bool true) _ (by (try dsimp only) <;> simp only [Act.put, List.setIfInBounds_toArray, List.set_cons_zero, List.set_cons_succ, e37]) (HJ.out.pureStep 38 _ HB.out (by rw [HS.out]; rfl) (by rw [HS.out]; rfl) (by rw [HS.out]; rfl) (by rw [HS.out]; rfl))
      exact StepsJ.nil
    case hend =>
      intro b f w11 hb hJ
      try dsimp only
      have e38 : f 38 = .bool true := hJ.pure 38 _ (by rw [HS.out]; rfl) (hb 38 (by decide))
      have kk := hJ.k
      clear hJ hb
      have T_11 := Lib.hid (T_10.out.kp kk)
      have Z_11 := Lib.hid (Z_10.out.kp kk)
      have Vx_11 := Lib.hid (Vx_10.out.kp kk)
      have Bx_11 := Lib.hid (Bx_10.out.kp kk)
      have Vy_11 := Lib.hid (Vy_10.out.kp kk)
      have By_11 := Lib.hid (By_10.out.kp kk)
      have Vp_11 := Lib.hid (Vp_10.out.kp kk)
      have Bp_11 := Lib.hid (Bp_10.out.kp kk)
      have Vq_11 := Lib.hid (Vq_10.out.kp kk)
      have Bq_11 := Lib.hid (Bq_10.out.kp kk)
      clear kk T_10 Z_10 Vx_10 Bx_10 Vy_10 By_10 Vp_10 Bp_10 Vq_10 Bq_10
      simp only [e38]
      clear e38
      generalize f 0 = yb0
      generalize f 1 = yb1
      generalize f 2 = yb2
      generalize f 3 = yb3
      generalize f 4 = yb4
      generalize f 5 = yb5
      generalize f 6 = yb6
      generalize f 7 = yb7
      generalize f 8 = yb8
      generalize f 9 = yb9
      generalize f 10 = yb10
      generalize f 11 = yb11
      generalize f 12 = yb12
      generalize f 13 = yb13
      generalize f 14 = yb14
      generalize f 15 = yb15
      generalize f 16 = yb16
      generalize f 17 = yb17
      generalize f 18 = yb18
      generalize f 19 = yb19
      generalize f 20 = yb20
      generalize f 21 = yb21
      generalize f 22 = yb22
      generalize f 23 = yb23
      generalize f 24 = yb24
      generalize f 25 = yb25
      generalize f 26 = yb26
      generalize f 27 = yb27
      generalize f 28 = yb28
      generalize f 29 = yb29
      generalize f 30 = yb30
      generalize f 31 = yb31
      generalize f 32 = yb32
      generalize f 33 = yb33
      generalize f 34 = yb34
      generalize f 35 = yb35
      generalize f 36 = yb36
      generalize f 37 = yb37
      clear HS S f b
      obtain ⟨xz0, xz1, xz2⟩ := T_11.out.ra.cells
      obtain ⟨yz0, yz1, yz2⟩ := T_11.out.rb.cells
      obtain ⟨xg0, xg1, xg2, _⟩ := Bx_11.out.cells
      obtain ⟨yg0, yg1, yg2, _⟩ := By_11.out.cells
      obtain ⟨pg0, pg1, pg2, _⟩ := Bp_11.out.cells
      obtain ⟨qg0, qg1, qg2, _⟩ := Bq_11.out.cells
      go_wp2
      go_ret
      exact ⟨rfl, T_11.out.k⟩

set_option maxRecDepth 20000 in
set_option maxHeartbeats 4000000 in
theorem sums_some {w : World} {sa : Bool} {ua ub : Value} {n1 d1 : List Nat} {sb : Bool} {va vb : Value} {n2 d2 : List Nat} (hua : Rd w ua n1) (hub : Rd w ub d1) (hva : Rd w va n2) (hvb : Rd w vb d2) (h0 : numR sb n2 d2 ≠ 0) (hl : (n1.length ≤ 16 ∧ d1.length ≤ 16) ∧ (n2.length ≤ 16 ∧ d2.length ≤ 16)) (htab : Lib.TabIs Tryz.prog w "internal/strconv.uint64pow10" .u64 Lib.pow10Tab) (hZ : Tz w) :
    Calls Tryz.prog 5 #[.agg #[.bool sa, ua, ub], .agg #[.bool sb, va, vb]] w fun e w' => e = .returned (.bool true) ∧ Kp w w' := by
  have HTB := Lib.hid (Lib.tabBelow_of_tabIs htab)
  have HZ := Lib.hid hZ
  have CAW := Lib.hid (fun w' (kk : Kp w w') (t : Tz w') => qawake_any w' t (tabKp HTB.out kk))
  obtain ⟨hl1, hl2⟩ := hl
  have CL1 := Lib.hid (fun w' (kk : Kp w w') => qlight_yes (s := sa) (hua.kp kk) (hub.kp kk) hl1)
  have CN1 := Lib.hid (fun w' (kk : Kp w w') => number_any (s := sa) (hua.kp kk) (hub.kp kk) hl1.1 hl1.2)
  have Sx : RSz 16 (numR sa n1 d1) := rsz_num hua hub hl1.1 hl1.2
  obtain ⟨Xx, hXx⟩ : ∃ X, X = (numR sa n1 d1) := ⟨_, rfl⟩
  rw [← hXx] at CN1 Sx
  clear hXx
  have CL2 := Lib.hid (fun w' (kk : Kp w w') => qlight_yes (s := sb) (hva.kp kk) (hvb.kp kk) hl2)
  have CN2 := Lib.hid (fun w' (kk : Kp w w') => number_any (s := sb) (hva.kp kk) (hvb.kp kk) hl2.1 hl2.2)
  have Sy : RSz 16 (numR sb n2 d2) := rsz_num hva hvb hl2.1 hl2.2
  obtain ⟨Xy, hXy⟩ : ∃ X, X = (numR sb n2 d2) := ⟨_, rfl⟩
  rw [← hXy] at CN2 Sy h0
  clear hXy
  obtain ⟨xo1, xl1, xc1, rfl⟩ := rd_slice hua
  obtain ⟨xo2, xl2, xc2, rfl⟩ := rd_slice hub
  obtain ⟨yo1, yl1, yc1, rfl⟩ := rd_slice hva
  obtain ⟨yo2, yl2, yc2, rfl⟩ := rd_slice hvb
  have HT := Lib.hid (Rw2.new w (.bool sa) (.slice xo1 xl1 xc1) (.slice xo2 xl2 xc2) (.bool sb) (.slice yo1 yl1 yc1) (.slice yo2 yl2 yc2))
  have CQ1 := Lib.hid (fun w' a b (ha : RatV w' a (Xx)) (hb : RatV w' b (Xy)) (t : Tz w') => quo_some ha hb Sx Sy (by omega) (by omega) h0 t)
  have CQ2 := Lib.hid (fun w' a b (ha : RatV w' a (Xx)) (hb : RatV w' b (Xy)) => rqquo_some ha hb Sx Sy (by omega) (by omega) h0)
  have C1 := Lib.hid (fun w' a b (ha : RatV w' a (Xx)) (hb : RatV w' b (Xy)) (t : Tz w') => qadd_any ha hb Sx Sy (by omega) (by omega) t)
  have C2 := Lib.hid (fun w' a b (ha : RatV w' a (Xx)) (hb : RatV w' b (Xy)) => rqadd_any ha hb Sx Sy (by omega) (by omega))
  have C3 := Lib.hid (fun w' a b (ha : RatV w' a ((Xx + Xy))) (hb : RatV w' b ((Xx + Xy))) => by have h := rqsame_any ha hb; rw [decide_eq_true (show ((Xx + Xy)) = ((Xx + Xy)) from rfl)] at h; exact h)
  have C4 := Lib.hid (fun w' a b (ha : RatV w' a (Xx)) (hb : RatV w' b (Xy)) (t : Tz w') => qsub_any ha hb Sx Sy (by omega) (by omega) t)
  have C5 := Lib.hid (fun w' a b (ha : RatV w' a (Xx)) (hb : RatV w' b (Xy)) => rqsub_any ha hb Sx Sy (by omega) (by omega))
  have C6 := Lib.hid (fun w' a b (ha : RatV w' a ((Xx - Xy))) (hb : RatV w' b ((Xx - Xy))) => by have h := rqsame_any ha hb; rw [decide_eq_true (show ((Xx - Xy)) = ((Xx - Xy)) from rfl)] at h; exact h)
  have C7 := Lib.hid (fun w' a b (ha : RatV w' a (Xx)) (hb : RatV w' b (Xy)) (t : Tz w') => qmul_any ha hb Sx Sy (by omega) (by omega) t)
  have C8 := Lib.hid (fun w' a b (ha : RatV w' a (Xx)) (hb : RatV w' b (Xy)) => rqmul_any ha hb Sx Sy (by omega) (by omega))
  have C9 := Lib.hid (fun w' a b (ha : RatV w' a ((Xx * Xy))) (hb : RatV w' b ((Xx * Xy))) => by have h := rqsame_any ha hb; rw [decide_eq_true (show ((Xx * Xy)) = ((Xx * Xy)) from rfl)] at h; exact h)
  have C10 := Lib.hid (fun w' a b (ha : RatV w' a ((Xx / Xy))) (hb : RatV w' b ((Xx / Xy))) => by have h := rqsame_any ha hb; rw [decide_eq_true (show ((Xx / Xy)) = ((Xx / Xy)) from rfl)] at h; exact h)
  clear h0
  clear hua hub hl1 Sx hva hvb hl2 Sy htab hZ
  go_enter Tryz.func5, Tryz.ntmps5
  have Z_e := Lib.hid (HZ.out.kp HT.out.k)
  obtain ⟨xz0, xz1, xz2⟩ := HT.out.ra.cells
  obtain ⟨yz0, yz1, yz2⟩ := HT.out.rb.cells
  go_wp2_with (go_at_call 13; (with_reducible refine (CL1.out _ HT.out.k).mono ?_); rintro e w2 ⟨rfl, k2⟩; refine Hid.out ?_)
  refine Lib.hid ?_
  have T_2 := Lib.hid (HT.out.kp k2)
  have Z_2 := Lib.hid (Z_e.out.kp k2)
  clear HT Z_e
  clear k2
  obtain ⟨xz0, xz1, xz2⟩ := T_2.out.ra.cells
  obtain ⟨yz0, yz1, yz2⟩ := T_2.out.rb.cells
  go_wp2_with (go_at_call 13; (with_reducible refine (CL2.out _ T_2.out.k).mono ?_); rintro e w3 ⟨rfl, k3⟩; refine Hid.out ?_)
  refine Lib.hid ?_
  have T_3 := Lib.hid (T_2.out.kp k3)
  have Z_3 := Lib.hid (Z_2.out.kp k3)
  clear T_2 Z_2
  clear k3
  obtain ⟨xz0, xz1, xz2⟩ := T_3.out.ra.cells
  obtain ⟨yz0, yz1, yz2⟩ := T_3.out.rb.cells
  go_upto_region 3 with fail
  have T_4 := Lib.hid (T_3.out.kp (Below.refl _ _).drew)
  have Z_4 := Lib.hid (Z_3.out.kp (Below.refl _ _).drew)
  clear T_3 Z_3
  obtain ⟨S, hS⟩ : ∃ S : Plan, S = ⟨[(0, .agg #[.bool sa, .slice xo1 xl1 xc1, .slice xo2 xl2 xc2]), (2, .agg #[.bool sb, .slice yo1 yl1 yc1, .slice yo2 yl2 yc2])], [(1, Xx), (3, Xy)], [], [⟨4, 6, 1⟩, ⟨5, 7, 3⟩]⟩ := ⟨_, rfl⟩
  have HS := Lib.hid hS
  clear hS
  refine' wp_region_inv (F := _) (by kernel_rfl) (by kernel_rfl) (by kernel_rfl) (PJ S _) (PJ.begin _ _ _) ?hF ?hsteps ?hend
  case hF => intro f; (try simp only [List.append]); simp only [putAll, Act.put, List.setIfInBounds_toArray, List.set_cons_zero, List.set_cons_succ, Nat.zero_add, Nat.reduceAdd]; exact rfl
  case hsteps =>
    refine StepsJ.cons ?_ ?_
    · intro b f w1 hb hw hJ K hK
      have HB := Lib.hid hb
      have HJ := Lib.hid hJ
      have HW := Lib.hid hw
      clear hJ hw hb
      try dsimp only
      rw [if_pos (by rfl)]
      obtain ⟨xz0, xz1, xz2⟩ := (T_4.out.kp HJ.out.k).ra.cells
      go_simp
      exact hK.out _ (.agg #[.bool sa, .slice xo1 xl1 xc1, .slice xo2 xl2 xc2]) _ (by (try dsimp only) <;> simp only [Act.put, List.setIfInBounds_toArray, List.set_cons_zero, List.set_cons_succ]) (HJ.out.pureStep 0 _ HB.out (by rw [HS.out]; rfl) (by rw [HS.out]; rfl) (by rw [HS.out]; rfl) (by rw [HS.out]; rfl))
    refine StepsJ.cons ?_ ?_
    · intro b f w1 hb hw hJ K hK
      have HB := Lib.hid hb
      have HJ := Lib.hid hJ
      have HW := Lib.hid hw
      clear hJ hw hb
      try dsimp only
      have e0 : f 0 = .agg #[.bool sa, .slice xo1 xl1 xc1, .slice xo2 xl2 xc2] := HJ.out.pure 0 _ (by rw [HS.out]; rfl) (HW.out 0 (by decide))
      simp only [e0]
      rw [if_pos (by rfl)]
      go_simp
      go_at_call 24
      (with_reducible refine (CN1.out _ (T_4.out.kp HJ.out.k).k).mono ?_)
      rintro e w2 ⟨vr, rfl, hr, kk⟩
      exact hK.out _ vr _ (by (try dsimp only) <;> simp only [Act.put, List.setIfInBounds_toArray, List.set_cons_zero, List.set_cons_succ, e0]) (HJ.out.callStep 1 vr _ HB.out kk hr (by rw [HS.out]; rfl) (by rw [HS.out]; rfl) (by rw [HS.out]; rfl) (by rw [HS.out]; rfl))
    refine StepsJ.cons ?_ ?_
    · intro b f w1 hb hw hJ K hK
      have HB := Lib.hid hb
      have HJ := Lib.hid hJ
      have HW := Lib.hid hw
      clear hJ hw hb
      try dsimp only
      rw [if_pos (by rfl)]
      obtain ⟨yz0, yz1, yz2⟩ := (T_4.out.kp HJ.out.k).rb.cells
      go_simp
      exact hK.out _ (.agg #[.bool sb, .slice yo1 yl1 yc1, .slice yo2 yl2 yc2]) _ (by (try dsimp only) <;> simp only [Act.put, List.setIfInBounds_toArray, List.set_cons_zero, List.set_cons_succ]) (HJ.out.pureStep 2 _ HB.out (by rw [HS.out]; rfl) (by rw [HS.out]; rfl) (by rw [HS.out]; rfl) (by rw [HS.out]; rfl))
    refine StepsJ.cons ?_ ?_
    · intro b f w1 hb hw hJ K hK
      have HB := Lib.hid hb
      have HJ := Lib.hid hJ
      have HW := Lib.hid hw
      clear hJ hw hb
      try dsimp only
      have e2 : f 2 = .agg #[.bool sb, .slice yo1 yl1 yc1, .slice yo2 yl2 yc2] := HJ.out.pure 2 _ (by rw [HS.out]; rfl) (HW.out 2 (by decide))
      simp only [e2]
      rw [if_pos (by rfl)]
      go_simp
      go_at_call 24
      (with_reducible refine (CN2.out _ (T_4.out.kp HJ.out.k).k).mono ?_)
      rintro e w2 ⟨vr, rfl, hr, kk⟩
      exact hK.out _ vr _ (by (try dsimp only) <;> simp only [Act.put, List.setIfInBounds_toArray, List.set_cons_zero, List.set_cons_succ, e2]) (HJ.out.callStep 3 vr _ HB.out kk hr (by rw [HS.out]; rfl) (by rw [HS.out]; rfl) (by rw [HS.out]; rfl) (by rw [HS.out]; rfl))
    refine StepsJ.cons ?_ ?_
    · intro b f w1 hb hw hJ K hK
      have HB := Lib.hid hb
      have HJ := Lib.hid hJ
      have HW := Lib.hid hw
      clear hJ hw hb
      try dsimp only
      rw [if_pos (by rfl)]
      go_simp
      exact hK.out _ _ _ (by (try dsimp only) <;> simp only [Act.put, List.setIfInBounds_toArray, List.set_cons_zero, List.set_cons_succ]) (HJ.out.allocStep 4 HB.out (by rw [HS.out]; rfl) (by rw [HS.out]; rfl) (by rw [HS.out]; rfl) (by rw [HS.out]; rfl))
    refine StepsJ.cons ?_ ?_
    · intro b f w1 hb hw hJ K hK
      have HB := Lib.hid hb
      have HJ := Lib.hid hJ
      have HW := Lib.hid hw
      clear hJ hw hb
      try dsimp only
      rw [if_pos (by rfl)]
      go_simp
      exact hK.out _ _ _ (by (try dsimp only) <;> simp only [Act.put, List.setIfInBounds_toArray, List.set_cons_zero, List.set_cons_succ]) (HJ.out.allocStep 5 HB.out (by rw [HS.out]; rfl) (by rw [HS.out]; rfl) (by rw [HS.out]; rfl) (by rw [HS.out]; rfl))
    refine StepsJ.cons ?_ ?_
    · intro b f w1 hb hw hJ K hK
      have HB := Lib.hid hb
      have HJ := Lib.hid hJ
      have HW := Lib.hid hw
      clear hJ hw hb
      try dsimp only
      rw [if_pos (by rfl)]
      obtain ⟨g, s, o1, l1, c1, o2, l2, c2, h1, h2, hr, hn⟩ := HJ.out.storeStep ⟨4, 6, 1⟩ (by rw [HS.out]; simp) (Xx) (by rw [HS.out]; rfl) 6 rfl HB.out (HW.out 4 (by decide)) (HW.out 1 (by decide)) (by rw [HS.out]; rfl) (by rw [HS.out]; rfl) (by rw [HS.out]; rfl) (by rw [HS.out]; simp)
      have HN := Lib.hid hn
      obtain ⟨d0, d1, d2, f0, f1, f2⟩ := hr.cells
      clear hn hr
      simp only at h1 h2
      simp only [h1, h2]
      go_simp
      exact hK.out _ undef _ (by (try dsimp only) <;> simp only [Act.put, h1, h2]) (HN.out undef)
    refine StepsJ.cons ?_ ?_
    · intro b f w1 hb hw hJ K hK
      have HB := Lib.hid hb
      have HJ := Lib.hid hJ
      have HW := Lib.hid hw
      clear hJ hw hb
      try dsimp only
      rw [if_pos (by rfl)]
      obtain ⟨g, s, o1, l1, c1, o2, l2, c2, h1, h2, hr, hn⟩ := HJ.out.storeStep ⟨5, 7, 3⟩ (by rw [HS.out]; simp) (Xy) (by rw [HS.out]; rfl) 7 rfl HB.out (HW.out 5 (by decide)) (HW.out 3 (by decide)) (by rw [HS.out]; rfl) (by rw [HS.out]; rfl) (by rw [HS.out]; rfl) (by rw [HS.out]; simp)
      have HN := Lib.hid hn
      obtain ⟨d0, d1, d2, f0, f1, f2⟩ := hr.cells
      clear hn hr
      simp only at h1 h2
      simp only [h1, h2]
      go_simp
      exact hK.out _ undef _ (by (try dsimp only) <;> simp only [Act.put, h1, h2]) (HN.out undef)
    exact StepsJ.nil
  case hend =>
    intro b f w5 hb hJ
    try dsimp only
    obtain ⟨gx, xs, xq1, xr1, xs1, xq2, xr2, xs2, ex, hrx, hx⟩ := hJ.all ⟨4, 6, 1⟩ (by rw [HS.out]; simp) (Xx) (by rw [HS.out]; rfl) (hb 4 (by decide)) (hb 1 (by decide)) (hb 6 (by decide))
    obtain ⟨gy, ys, yq1, yr1, ys1, yq2, yr2, ys2, ey, hry, hy⟩ := hJ.all ⟨5, 7, 3⟩ (by rw [HS.out]; simp) (Xy) (by rw [HS.out]; rfl) (hb 5 (by decide)) (hb 3 (by decide)) (hb 7 (by decide))
    simp only at ex ey
    have kk := hJ.k
    clear hJ hb
    have T_5 := Lib.hid (T_4.out.kp kk)
    have Z_5 := Lib.hid (Z_4.out.kp kk)
    clear kk T_4 Z_4
    have Vx_5 := Lib.hid hx
    have Bx_5 := Lib.hid hrx
    clear hx hrx
    have Vy_5 := Lib.hid hy
    have By_5 := Lib.hid hry
    clear hy hry
    simp only [ex, ey]
    clear ex ey
    generalize f 0 = ya0
    generalize f 1 = ya1
    generalize f 2 = ya2
    generalize f 3 = ya3
    clear HS S f b
    obtain ⟨xz0, xz1, xz2⟩ := T_5.out.ra.cells
    obtain ⟨yz0, yz1, yz2⟩ := T_5.out.rb.cells
    obtain ⟨xg0, xg1, xg2, _⟩ := Bx_5.out.cells
    obtain ⟨yg0, yg1, yg2, _⟩ := By_5.out.cells
    go_wp2_with (go_at_call 25; (with_reducible refine (CQ1.out _ _ _ Vx_5.out Vy_5.out Z_5.out).mono ?_); rintro e w6 ⟨vp, rfl, hp, k6⟩; refine Hid.out ?_)
    refine Lib.hid ?_
    have T_6 := Lib.hid (T_5.out.kp k6)
    have Z_6 := Lib.hid (Z_5.out.kp k6)
    have Vx_6 := Lib.hid (Vx_5.out.kp k6)
    have Bx_6 := Lib.hid (Bx_5.out.kp k6)
    have Vy_6 := Lib.hid (Vy_5.out.kp k6)
    have By_6 := Lib.hid (By_5.out.kp k6)
    clear T_5 Z_5 Vx_5 Bx_5 Vy_5 By_5
    clear k6
    obtain ⟨ps, pq1, pr1, ps1, pq2, pr2, ps2, rfl⟩ := hp.lit
    have Vp_l := Lib.hid hp
    have Bp_l := Lib.hid (Res.new w6 (.bool ps) (.slice pq1 pr1 ps1) (.slice pq2 pr2 ps2))
    clear hp
    have T_7 := Lib.hid (T_6.out.kp (Kp.alloc _ (Obj.cells #[Value.bool ps, Value.slice pq1 pr1 ps1, Value.slice pq2 pr2 ps2] 27)))
    have Z_7 := Lib.hid (Z_6.out.kp (Kp.alloc _ (Obj.cells #[Value.bool ps, Value.slice pq1 pr1 ps1, Value.slice pq2 pr2 ps2] 27)))
    have Vx_7 := Lib.hid (Vx_6.out.kp (Kp.alloc _ (Obj.cells #[Value.bool ps, Value.slice pq1 pr1 ps1, Value.slice pq2 pr2 ps2] 27)))
    have Bx_7 := Lib.hid (Bx_6.out.kp (Kp.alloc _ (Obj.cells #[Value.bool ps, Value.slice pq1 pr1 ps1, Value.slice pq2 pr2 ps2] 27)))
    have Vy_7 := Lib.hid (Vy_6.out.kp (Kp.alloc _ (Obj.cells #[Value.bool ps, Value.slice pq1 pr1 ps1, Value.slice pq2 pr2 ps2] 27)))
    have By_7 := Lib.hid (By_6.out.kp (Kp.alloc _ (Obj.cells #[Value.bool ps, Value.slice pq1 pr1 ps1, Value.slice pq2 pr2 ps2] 27)))
    have Vp_7 := Lib.hid (Vp_l.out.kp (Kp.alloc _ (Obj.cells #[Value.bool ps, Value.slice pq1 pr1 ps1, Value.slice pq2 pr2 ps2] 27)))
    clear T_6 Z_6 Vx_6 Bx_6 Vy_6 By_6 Vp_l
    obtain ⟨xz0, xz1, xz2⟩ := T_7.out.ra.cells
    obtain ⟨yz0, yz1, yz2⟩ := T_7.out.rb.cells
    obtain ⟨xg0, xg1, xg2, _⟩ := Bx_7.out.cells
    obtain ⟨yg0, yg1, yg2, _⟩ := By_7.out.cells
    obtain ⟨pg0, pg1, pg2, _⟩ := Bp_l.out.cells
    go_wp2_with (go_at_call 26; (with_reducible refine (CQ2.out _ _ _ Vx_7.out Vy_7.out).mono ?_); rintro e w8 ⟨vq, rfl, hq, k8⟩; refine Hid.out ?_)
    refine Lib.hid ?_
    have T_8 := Lib.hid (T_7.out.kp k8)
    have Z_8 := Lib.hid (Z_7.out.kp k8)
    have Vx_8 := Lib.hid (Vx_7.out.kp k8)
    have Bx_8 := Lib.hid (Bx_7.out.kp k8)
    have Vy_8 := Lib.hid (Vy_7.out.kp k8)
    have By_8 := Lib.hid (By_7.out.kp k8)
    have Vp_8 := Lib.hid (Vp_7.out.kp k8)
    have Bp_8 := Lib.hid (Bp_l.out.kp k8)
    clear T_7 Z_7 Vx_7 Bx_7 Vy_7 By_7 Vp_7 Bp_l
    clear k8
    obtain ⟨qs, qq1, qr1, qs1, qq2, qr2, qs2, rfl⟩ := hq.lit
    have Vq_l := Lib.hid hq
    have Bq_l := Lib.hid (Res.new w8 (.bool qs) (.slice qq1 qr1 qs1) (.slice qq2 qr2 qs2))
    clear hq
    have T_9 := Lib.hid (T_8.out.kp (Kp.alloc _ (Obj.cells #[Value.bool qs, Value.slice qq1 qr1 qs1, Value.slice qq2 qr2 qs2] 27)))
    have Z_9 := Lib.hid (Z_8.out.kp (Kp.alloc _ (Obj.cells #[Value.bool qs, Value.slice qq1 qr1 qs1, Value.slice qq2 qr2 qs2] 27)))
    have Vx_9 := Lib.hid (Vx_8.out.kp (Kp.alloc _ (Obj.cells #[Value.bool qs, Value.slice qq1 qr1 qs1, Value.slice qq2 qr2 qs2] 27)))
    have Bx_9 := Lib.hid (Bx_8.out.kp (Kp.alloc _ (Obj.cells #[Value.bool qs, Value.slice qq1 qr1 qs1, Value.slice qq2 qr2 qs2] 27)))
    have Vy_9 := Lib.hid (Vy_8.out.kp (Kp.alloc _ (Obj.cells #[Value.bool qs, Value.slice qq1 qr1 qs1, Value.slice qq2 qr2 qs2] 27)))
    have By_9 := Lib.hid (By_8.out.kp (Kp.alloc _ (Obj.cells #[Value.bool qs, Value.slice qq1 qr1 qs1, Value.slice qq2 qr2 qs2] 27)))
    have Vp_9 := Lib.hid (Vp_8.out.kp (Kp.alloc _ (Obj.cells #[Value.bool qs, Value.slice qq1 qr1 qs1, Value.slice qq2 qr2 qs2] 27)))
    have Bp_9 := Lib.hid (Bp_8.out.kp (Kp.alloc _ (Obj.cells #[Value.bool qs, Value.slice qq1 qr1 qs1, Value.slice qq2 qr2 qs2] 27)))
    have Vq_9 := Lib.hid (Vq_l.out.kp (Kp.alloc _ (Obj.cells #[Value.bool qs, Value.slice qq1 qr1 qs1, Value.slice qq2 qr2 qs2] 27)))
    clear T_8 Z_8 Vx_8 Bx_8 Vy_8 By_8 Vp_8 Bp_8 Vq_l
    obtain ⟨xz0, xz1, xz2⟩ := T_9.out.ra.cells
    obtain ⟨yz0, yz1, yz2⟩ := T_9.out.rb.cells
    obtain ⟨xg0, xg1, xg2, _⟩ := Bx_9.out.cells
    obtain ⟨yg0, yg1, yg2, _⟩ := By_9.out.cells
    obtain ⟨pg0, pg1, pg2, _⟩ := Bp_9.out.cells
    obtain ⟨qg0, qg1, qg2, _⟩ := Bq_l.out.cells
    go_upto_region 6 with fail
    have T_10 := Lib.hid (T_9.out.kp (Below.refl _ _).drew)
    have Z_10 := Lib.hid (Z_9.out.kp (Below.refl _ _).drew)
    have Vx_10 := Lib.hid (Vx_9.out.kp (Below.refl _ _).drew)
    have Bx_10 := Lib.hid (Bx_9.out.kp (Below.refl _ _).drew)
    have Vy_10 := Lib.hid (Vy_9.out.kp (Below.refl _ _).drew)
    have By_10 := Lib.hid (By_9.out.kp (Below.refl _ _).drew)
    have Vp_10 := Lib.hid (Vp_9.out.kp (Below.refl _ _).drew)
    have Bp_10 := Lib.hid (Bp_9.out.kp (Below.refl _ _).drew)
    have Vq_10 := Lib.hid (Vq_9.out.kp (Below.refl _ _).drew)
    have Bq_10 := Lib.hid (Bq_l.out.kp (Below.refl _ _).drew)
    clear T_9 Z_9 Vx_9 Bx_9 Vy_9 By_9 Vp_9 Bp_9 Vq_9 Bq_l
    obtain ⟨S, hS⟩ : ∃ S : Plan, S = ⟨[(0, .agg #[.bool xs, .slice xq1 xr1 xs1, .slice xq2 xr2 xs2]), (1, .agg #[.bool ys, .slice yq1 yr1 ys1, .slice yq2 yr2 ys2]), (3, .agg #[.bool xs, .slice xq1 xr1 xs1, .slice xq2 xr2 xs2]), (4, .agg #[.bool ys, .slice yq1 yr1 ys1, .slice yq2 yr2 ys2]), (6, .bool true), (7, .bool true), (8, .agg #[.bool xs, .slice xq1 xr1 xs1, .slice xq2 xr2 xs2]), (9, .agg #[.bool ys, .slice yq1 yr1 ys1, .slice yq2 yr2 ys2]), (11, .agg #[.bool xs, .slice xq1 xr1 xs1, .slice xq2 xr2 xs2]), (12, .agg #[.bool ys, .slice yq1 yr1 ys1, .slice yq2 yr2 ys2]), (14, .bool true), (15, .bool true), (16, .bool true), (17, .agg #[.bool xs, .slice xq1 xr1 xs1, .slice xq2 xr2 xs2]), (18, .agg #[.bool ys, .slice yq1 yr1 ys1, .slice yq2 yr2 ys2]), (20, .agg #[.bool xs, .slice xq1 xr1 xs1, .slice xq2 xr2 xs2]), (21, .agg #[.bool ys, .slice yq1 yr1 ys1, .slice yq2 yr2 ys2]), (23, .bool true), (24, .bool true), (25, .bool true), (26, .int .i64 0), (27, .int .i64 0), (28, .bool true), (29, .bool true), (30, .bool true), (31, .agg #[.bool ps, .slice pq1 pr1 ps1, .slice pq2 pr2 ps2]), (32, .agg #[.bool qs, .slice qq1 qr1 qs1, .slice qq2 qr2 qs2]), (33, .bool true), (34, .bool true), (35, .bool true), (36, .bool true), (37, .bool true), (38, .bool true)], [(2, (Xx + Xy)), (5, (Xx + Xy)), (10, (Xx - Xy)), (13, (Xx - Xy)), (19, (Xx * Xy)), (22, (Xx * Xy))], [], []⟩ := ⟨_, rfl⟩
    have HS := Lib.hid hS
    clear hS
    refine' wp_region_inv (F := _) (by kernel_rfl) (by kernel_rfl) (by kernel_rfl) (PJ S _) (PJ.begin _ _ _) ?hF ?hsteps ?hend
    case hF => intro f; (try simp only [List.append]); simp only [putAll, Act.put, List.setIfInBounds_toArray, List.set_cons_zero, List.set_cons_succ, Nat.zero_add, Nat.reduceAdd]; exact rfl
    case hsteps =>
      try simp only [List.append]
      refine StepsJ.cons ?_ ?_
      · intro b f w1 hb hw hJ K hK
        have HB := Lib.hid hb
        have HJ := Lib.hid hJ
        have HW := Lib.hid hw
        clear hJ hw hb
        try dsimp only
        rw [if_pos (by rfl)]
        obtain ⟨xg0, xg1, xg2, _⟩ := (Bx_10.out.kp HJ.out.k).cells
        go_simp
        exact hK.out _ (.agg #[.bool xs, .slice xq1 xr1 xs1, .slice xq2 xr2 xs2]) _ (by (try dsimp only) <;> simp only [Act.put, List.setIfInBounds_toArray, List.set_cons_zero, List.set_cons_succ]) (HJ.out.pureStep 0 _ HB.out (by rw [HS.out]; rfl) (by rw [HS.out]; rfl) (by rw [HS.out]; rfl) (by rw [HS.out]; rfl))
      refine StepsJ.cons ?_ ?_
      · intro b f w1 hb hw hJ K hK
        have HB := Lib.hid hb
        have HJ := Lib.hid hJ
        have HW := Lib.hid hw
        clear hJ hw hb
        try dsimp only
        rw [if_pos (by rfl)]
        obtain ⟨yg0, yg1, yg2, _⟩ := (By_10.out.kp HJ.out.k).cells
        go_simp
        exact hK.out _ (.agg #[.bool ys, .slice yq1 yr1 ys1, .slice yq2 yr2 ys2]) _ (by (try dsimp only) <;> simp only [Act.put, List.setIfInBounds_toArray, List.set_cons_zero, List.set_cons_succ]) (HJ.out.pureStep 1 _ HB.out (by rw [HS.out]; rfl) (by rw [HS.out]; rfl) (by rw [HS.out]; rfl) (by rw [HS.out]; rfl))
      refine StepsJ.cons ?_ ?_
      · intro b f w1 hb hw hJ K hK
        have HB := Lib.hid hb
        have HJ := Lib.hid hJ
        have HW := Lib.hid hw
        clear hJ hw hb
        try dsimp only
        have e0 : f 0 = .agg #[.bool xs, .slice xq1 xr1 xs1, .slice xq2 xr2 xs2] := HJ.out.pure 0 _ (by rw [HS.out]; rfl) (HW.out 0 (by decide))
        have e1 : f 1 = .agg #[.bool ys, .slice yq1 yr1 ys1, .slice yq2 yr2 ys2] := HJ.out.pure 1 _ (by rw [HS.out]; rfl) (HW.out 1 (by decide))
        simp only [e0, e1]
        rw [if_pos (by rfl)]
        go_simp
        go_at_call 27
        (with_reducible refine (C1.out _ _ _ (Vx_10.out.kp HJ.out.k) (Vy_10.out.kp HJ.out.k) (Z_10.out.kp HJ.out.k)).mono ?_)
        rintro e w2 ⟨vr, rfl, hr, kk⟩
        exact hK.out _ vr _ (by (try dsimp only) <;> simp only [Act.put, List.setIfInBounds_toArray, List.set_cons_zero, List.set_cons_succ, e0, e1]) (HJ.out.callStep 2 vr _ HB.out kk hr (by rw [HS.out]; rfl) (by rw [HS.out]; rfl) (by rw [HS.out]; rfl) (by rw [HS.out]; rfl))
      refine StepsJ.cons ?_ ?_
      · intro b f w1 hb hw hJ K hK
        have HB := Lib.hid hb
        have HJ := Lib.hid hJ
        have HW := Lib.hid hw
        clear hJ hw hb
        try dsimp only
        rw [if_pos (by rfl)]
        obtain ⟨xg0, xg1, xg2, _⟩ := (Bx_10.out.kp HJ.out.k).cells
        go_simp
        exact hK.out _ (.agg #[.bool xs, .slice xq1 xr1 xs1, .slice xq2 xr2 xs2]) _ (by (try dsimp only) <;> simp only [Act.put, List.setIfInBounds_toArray, List.set_cons_zero, List.set_cons_succ]) (HJ.out.pureStep 3 _ HB.out (by rw [HS.out]; rfl) (by rw [HS.out]; rfl) (by rw [HS.out]; rfl) (by rw [HS.out]; rfl))
      refine StepsJ.cons ?_ ?_
      · intro b f w1 hb hw hJ K hK
        have HB := Lib.hid hb
        have HJ := Lib.hid hJ
        have HW := Lib.hid hw
        clear hJ hw hb
        try dsimp only
        rw [if_pos (by rfl)]
        obtain ⟨yg0, yg1, yg2, _⟩ := (By_10.out.kp HJ.out.k).cells
        go_simp
        exact hK.out _ (.agg #[.bool ys, .slice yq1 yr1 ys1, .slice yq2 yr2 ys2]) _ (by (try dsimp only) <;> simp only [Act.put, List.setIfInBounds_toArray, List.set_cons_zero, List.set_cons_succ]) (HJ.out.pureStep 4 _ HB.out (by rw [HS.out]; rfl) (by rw [HS.out]; rfl) (by rw [HS.out]; rfl) (by rw [HS.out]; rfl))
      refine StepsJ.cons ?_ ?_
      · intro b f w1 hb hw hJ K hK
        have HB := Lib.hid hb
        have HJ := Lib.hid hJ
        have HW := Lib.hid hw
        clear hJ hw hb
        try dsimp only
        have e3 : f 3 = .agg #[.bool xs, .slice xq1 xr1 xs1, .slice xq2 xr2 xs2] := HJ.out.pure 3 _ (by rw [HS.out]; rfl) (HW.out 3 (by decide))
        have e4 : f 4 = .agg #[.bool ys, .slice yq1 yr1 ys1, .slice yq2 yr2 ys2] := HJ.out.pure 4 _ (by rw [HS.out]; rfl) (HW.out 4 (by decide))
        simp only [e3, e4]
        rw [if_pos (by rfl)]
        go_simp
        go_at_call 28
        (with_reducible refine (C2.out _ _ _ (Vx_10.out.kp HJ.out.k) (Vy_10.out.kp HJ.out.k)).mono ?_)
        rintro e w2 ⟨vr, rfl, hr, kk⟩
        exact hK.out _ vr _ (by (try dsimp only) <;> simp only [Act.put, List.setIfInBounds_toArray, List.set_cons_zero, List.set_cons_succ, e3, e4]) (HJ.out.callStep 5 vr _ HB.out kk hr (by rw [HS.out]; rfl) (by rw [HS.out]; rfl) (by rw [HS.out]; rfl) (by rw [HS.out]; rfl))
      refine StepsJ.cons ?_ ?_
      · intro b f w1 hb hw hJ K hK
        have HB := Lib.hid hb
        have HJ := Lib.hid hJ
        have HW := Lib.hid hw
        clear hJ hw hb
        try dsimp only
        rw [if_pos (by rfl)]
        have a2 := HJ.out.call 2 _ (by rw [HS.out]; rfl) (HW.out 2 (by decide))
        have a5 := HJ.out.call 5 _ (by rw [HS.out]; rfl) (HW.out 5 (by decide))
        have Ha2 := Lib.hid a2
        clear a2
        have Ha5 := Lib.hid a5
        clear a5
        go_simp
        go_at_call 19
        (with_reducible refine (C3.out _ _ _ Ha2.out Ha5.out).mono ?_)
        rintro e w2 ⟨rfl, kk⟩
        exact hK.out _ (.bool true) _ (by (try dsimp only) <;> simp only [Act.put, List.setIfInBounds_toArray, List.set_cons_zero, List.set_cons_succ]) ((HJ.out.later kk).pureStep 6 _ HB.out (by rw [HS.out]; rfl) (by rw [HS.out]; rfl) (by rw [HS.out]; rfl) (by rw [HS.out]; rfl))
      refine StepsJ.cons ?_ ?_
      · intro b f w1 hb hw hJ K hK
        have HB := Lib.hid hb
        have HJ := Lib.hid hJ
        have HW := Lib.hid hw
        clear hJ hw hb
        try dsimp only
        have e6 : f 6 = .bool true := HJ.out.pure 6 _ (by rw [HS.out]; rfl) (HW.out 6 (by decide))
        simp only [e6]
        rw [if_pos (by rfl)]
        go_simp
        exact hK.out _ (.bool true) _ (by (try dsimp only) <;> simp only [Act.put, List.setIfInBounds_toArray, List.set_cons_zero, List.set_cons_succ, e6]) (HJ.out.pureStep 7 _ HB.out (by rw [HS.out]; rfl) (by rw [HS.out]; rfl) (by rw [HS.out]; rfl) (by rw [HS.out]; rfl))
      refine StepsJ.cons ?_ ?_
      · intro b f w1 hb hw hJ K hK
        have HB := Lib.hid hb
        have HJ := Lib.hid hJ
        have HW := Lib.hid hw
        clear hJ hw hb
        try dsimp only
        have e7 : f 7 = .bool true := HJ.out.pure 7 _ (by rw [HS.out]; rfl) (HW.out 7 (by decide))
        simp only [e7]
        rw [if_pos (by rfl)]
        obtain ⟨xg0, xg1, xg2, _⟩ := (Bx_10.out.kp HJ.out.k).cells
        go_simp
        exact hK.out _ (.agg #[.bool xs, .slice xq1 xr1 xs1, .slice xq2 xr2 xs2]) _ (by (try dsimp only) <;> simp only [Act.put, List.setIfInBounds_toArray, List.set_cons_zero, List.set_cons_succ, e7]) (HJ.out.pureStep 8 _ HB.out (by rw [HS.out]; rfl) (by rw [HS.out]; rfl) (by rw [HS.out]; rfl) (by rw [HS.out]; rfl))
      refine StepsJ.cons ?_ ?_
      · intro b f w1 hb hw hJ K hK
        have HB := Lib.hid hb
        have HJ := Lib.hid hJ
        have HW := Lib.hid hw
        clear hJ hw hb
        try dsimp only
        have e7 : f 7 = .bool true := HJ.out.pure 7 _ (by rw [HS.out]; rfl) (HW.out 7 (by decide))
        simp only [e7]
        rw [if_pos (by rfl)]
        obtain ⟨yg0, yg1, yg2, _⟩ := (By_10.out.kp HJ.out.k).cells
        go_simp
        exact hK.out _ (.agg #[.bool ys, .slice yq1 yr1 ys1, .slice yq2 yr2 ys2]) _ (by (try dsimp only) <;> simp only [Act.put, List.setIfInBounds_toArray, List.set_cons_zero, List.set_cons_succ, e7]) (HJ.out.pureStep 9 _ HB.out (by rw [HS.out]; rfl) (by rw [HS.out]; rfl) (by rw [HS.out]; rfl) (by rw [HS.out]; rfl))
      refine StepsJ.cons ?_ ?_
      · intro b f w1 hb hw hJ K hK
        have HB := Lib.hid hb
        have HJ := Lib.hid hJ
        have HW := Lib.hid hw
        clear hJ hw hb
        try dsimp only
        have e7 : f 7 = .bool true := HJ.out.pure 7 _ (by rw [HS.out]; rfl) (HW.out 7 (by decide))
        have e8 : f 8 = .agg #[.bool xs, .slice xq1 xr1 xs1, .slice xq2 xr2 xs2] := HJ.out.pure 8 _ (by rw [HS.out]; rfl) (HW.out 8 (by decide))
        have e9 : f 9 = .agg #[.bool ys, .slice yq1 yr1 ys1, .slice yq2 yr2 ys2] := HJ.out.pure 9 _ (by rw [HS.out]; rfl) (HW.out 9 (by decide))
        simp only [e7, e8, e9]
        rw [if_pos (by rfl)]
        go_simp
        go_at_call 29
        (with_reducible refine (C4.out _ _ _ (Vx_10.out.kp HJ.out.k) (Vy_10.out.kp HJ.out.k) (Z_10.out.kp HJ.out.k)).mono ?_)
        rintro e w2 ⟨vr, rfl, hr, kk⟩
        exact hK.out _ vr _ (by (try dsimp only) <;> simp only [Act.put, List.setIfInBounds_toArray, List.set_cons_zero, List.set_cons_succ, e7, e8, e9]) (HJ.out.callStep 10 vr _ HB.out kk hr (by rw [HS.out]; rfl) (by rw [HS.out]; rfl) (by rw [HS.out]; rfl) (by rw [HS.out]; rfl))
      refine StepsJ.cons ?_ ?_
      · intro b f w1 hb hw hJ K hK
        have HB := Lib.hid hb
        have HJ := Lib.hid hJ
        have HW := Lib.hid hw
        clear hJ hw hb
        try dsimp only
        have e7 : f 7 = .bool true := HJ.out.pure 7 _ (by rw [HS.out]; rfl) (HW.out 7 (by decide))
        simp only [e7]
        rw [if_pos (by rfl)]
        obtain ⟨xg0, xg1, xg2, _⟩ := (Bx_10.out.kp HJ.out.k).cells
        go_simp
        exact hK.out _ (.agg #[.bool xs, .slice xq1 xr1 xs1, .slice xq2 xr2 xs2]) _ (by (try dsimp only) <;> simp only [Act.put, List.setIfInBounds_toArray, List.set_cons_zero, List.set_cons_succ, e7]) (HJ.out.pureStep 11 _ HB.out (by rw [HS.out]; rfl) (by rw [HS.out]; rfl) (by rw [HS.out]; rfl) (by rw [HS.out]; rfl))
      refine StepsJ.cons ?_ ?_
      · intro b f w1 hb hw hJ K hK
        have HB := Lib.hid hb
        have HJ := Lib.hid hJ
        have HW := Lib.hid hw
        clear hJ hw hb
        try dsimp only
        have e7 : f 7 = .bool true := HJ.out.pure 7 _ (by rw [HS.out]; rfl) (HW.out 7 (by decide))
        simp only [e7]
        rw [if_pos (by rfl)]
        obtain ⟨yg0, yg1, yg2, _⟩ := (By_10.out.kp HJ.out.k).cells
        go_simp
        exact hK.out _ (.agg #[.bool ys, .slice yq1 yr1 ys1, .slice yq2 yr2 ys2]) _ (by (try dsimp only) <;> simp only [Act.put, List.setIfInBounds_toArray, List.set_cons_zero, List.set_cons_succ, e7]) (HJ.out.pureStep 12 _ HB.out (by rw [HS.out]; rfl) (by rw [HS.out]; rfl) (by rw [HS.out]; rfl) (by rw [HS.out]; rfl))
      refine StepsJ.cons ?_ ?_
      · intro b f w1 hb hw hJ K hK
        have HB := Lib.hid hb
        have HJ := Lib.hid hJ
        have HW := Lib.hid hw
        clear hJ hw hb
        try dsimp only
        have e7 : f 7 = .bool true := HJ.out.pure 7 _ (by rw [HS.out]; rfl) (HW.out 7 (by decide))
        have e11 : f 11 = .agg #[.bool xs, .slice xq1 xr1 xs1, .slice xq2 xr2 xs2] := HJ.out.pure 11 _ (by rw [HS.out]; rfl) (HW.out 11 (by decide))
        have e12 : f 12 = .agg #[.bool ys, .slice yq1 yr1 ys1, .slice yq2 yr2 ys2] := HJ.out.pure 12 _ (by rw [HS.out]; rfl) (HW.out 12 (by decide))
        simp only [e7, e11, e12]
        rw [if_pos (by rfl)]
        go_simp
        go_at_call 30
        (with_reducible refine (C5.out _ _ _ (Vx_10.out.kp HJ.out.k) (Vy_10.out.kp HJ.out.k)).mono ?_)
        rintro e w2 ⟨vr, rfl, hr, kk⟩
        exact hK.out _ vr _ (by (try dsimp only) <;> simp only [Act.put, List.setIfInBounds_toArray, List.set_cons_zero, List.set_cons_succ, e7, e11, e12]) (HJ.out.callStep 13 vr _ HB.out kk hr (by rw [HS.out]; rfl) (by rw [HS.out]; rfl) (by rw [HS.out]; rfl) (by rw [HS.out]; rfl))
      refine StepsJ.cons ?_ ?_
      · intro b f w1 hb hw hJ K hK
        have HB := Lib.hid hb
        have HJ := Lib.hid hJ
        have HW := Lib.hid hw
        clear hJ hw hb
        try dsimp only
        have e7 : f 7 = .bool true := HJ.out.pure 7 _ (by rw [HS.out]; rfl) (HW.out 7 (by decide))
        simp only [e7]
        rw [if_pos (by rfl)]
        have a10 := HJ.out.call 10 _ (by rw [HS.out]; rfl) (HW.out 10 (by decide))
        have a13 := HJ.out.call 13 _ (by rw [HS.out]; rfl) (HW.out 13 (by decide))
        have Ha10 := Lib.hid a10
        clear a10
        have Ha13 := Lib.hid a13
        clear a13
        go_simp
        go_at_call 19
        (with_reducible refine (C6.out _ _ _ Ha10.out Ha13.out).mono ?_)
        rintro e w2 ⟨rfl, kk⟩
        exact hK.out _ (.bool true) _ (by (try dsimp only) <;> simp only [Act.put, List.setIfInBounds_toArray, List.set_cons_zero, List.set_cons_succ, e7]) ((HJ.out.later kk).pureStep 14 _ HB.out (by rw [HS.out]; rfl) (by rw [HS.out]; rfl) (by rw [HS.out]; rfl) (by rw [HS.out]; rfl))
      refine StepsJ.cons ?_ ?_
      · intro b f w1 hb hw hJ K hK
        have HB := Lib.hid hb
        have HJ := Lib.hid hJ
        have HW := Lib.hid hw
        clear hJ hw hb
        try dsimp only
        have e7 : f 7 = .bool true := HJ.out.pure 7 _ (by rw [HS.out]; rfl) (HW.out 7 (by decide))
        have e14 : f 14 = .bool true := HJ.out.pure 14 _ (by rw [HS.out]; rfl) (HW.out 14 (by decide))
        simp only [e7, e14]
        rw [if_pos (by rfl)]
        go_simp
        exact hK.out _ (.bool true) _ (by (try dsimp only) <;> simp only [Act.put, List.setIfInBounds_toArray, List.set_cons_zero, List.set_cons_succ, e7, e14]) (HJ.out.pureStep 15 _ HB.out (by rw [HS.out]; rfl) (by rw [HS.out]; rfl) (by rw [HS.out]; rfl) (by rw [HS.out]; rfl))
      refine StepsJ.cons ?_ ?_
      · intro b f w1 hb hw hJ K hK
        have HB := Lib.hid hb
        have HJ := Lib.hid hJ
        have HW := Lib.hid hw
        clear hJ hw hb
        try dsimp only
        have e15 : f 15 = .bool true := HJ.out.pure 15 _ (by rw [HS.out]; rfl) (HW.out 15 (by decide))
        simp only [e15]
        rw [if_pos (by rfl)]
        go_simp
        exact hK.out _ (.bool true) _ (by (try dsimp only) <;> simp only [Act.put, List.setIfInBounds_toArray, List.set_cons_zero, List.set_cons_succ, e15]) (HJ.out.pureStep 16 _ HB.out (by rw [HS.out]; rfl) (by rw [HS.out]; rfl) (by rw [HS.out]; rfl) (by rw [HS.out]; rfl))
      refine StepsJ.cons ?_ ?_
      · intro b f w1 hb hw hJ K hK
        have HB := Lib.hid hb
        have HJ := Lib.hid hJ
        have HW := Lib.hid hw
        clear hJ hw hb
        try dsimp only
        have e16 : f 16 = .bool true := HJ.out.pure 16 _ (by rw [HS.out]; rfl) (HW.out 16 (by decide))
        simp only [e16]
        rw [if_pos (by rfl)]
        obtain ⟨xg0, xg1, xg2, _⟩ := (Bx_10.out.kp HJ.out.k).cells
        go_simp
        exact hK.out _ (.agg #[.bool xs, .slice xq1 xr1 xs1, .slice xq2 xr2 xs2]) _ (by (try dsimp only) <;> simp only [Act.put, List.setIfInBounds_toArray, List.set_cons_zero, List.set_cons_succ, e16]) (HJ.out.pureStep 17 _ HB.out (by rw [HS.out]; rfl) (by rw [HS.out]; rfl) (by rw [HS.out]; rfl) (by rw [HS.out]; rfl))
      refine StepsJ.cons ?_ ?_
      · intro b f w1 hb hw hJ K hK
        have HB := Lib.hid hb
        have HJ := Lib.hid hJ
        have HW := Lib.hid hw
        clear hJ hw hb
        try dsimp only
        have e16 : f 16 = .bool true := HJ.out.pure 16 _ (by rw [HS.out]; rfl) (HW.out 16 (by decide))
        simp only [e16]
        rw [if_pos (by rfl)]
        obtain ⟨yg0, yg1, yg2, _⟩ := (By_10.out.kp HJ.out.k).cells
        go_simp
        exact hK.out _ (.agg #[.bool ys, .slice yq1 yr1 ys1, .slice yq2 yr2 ys2]) _ (by (try dsimp only) <;> simp only [Act.put, List.setIfInBounds_toArray, List.set_cons_zero, List.set_cons_succ, e16]) (HJ.out.pureStep 18 _ HB.out (by rw [HS.out]; rfl) (by rw [HS.out]; rfl) (by rw [HS.out]; rfl) (by rw [HS.out]; rfl))
      refine StepsJ.cons ?_ ?_
      · intro b f w1 hb hw hJ K hK
        have HB := Lib.hid hb
        have HJ := Lib.hid hJ
        have HW := Lib.hid hw
        clear hJ hw hb
        try dsimp only
        have e16 : f 16 = .bool true := HJ.out.pure 16 _ (by rw [HS.out]; rfl) (HW.out 16 (by decide))
        have e17 : f 17 = .agg #[.bool xs, .slice xq1 xr1 xs1, .slice xq2 xr2 xs2] := HJ.out.pure 17 _ (by rw [HS.out]; rfl) (HW.out 17 (by decide))
        have e18 : f 18 = .agg #[.bool ys, .slice yq1 yr1 ys1, .slice yq2 yr2 ys2] := HJ.out.pure 18 _ (by rw [HS.out]; rfl) (HW.out 18 (by decide))
        simp only [e16, e17, e18]
        rw [if_pos (by rfl)]
        go_simp
        go_at_call 31
        (with_reducible refine (C7.out _ _ _ (Vx_10.out.kp HJ.out.k) (Vy_10.out.kp HJ.out.k) (Z_10.out.kp HJ.out.k)).mono ?_)
        rintro e w2 ⟨vr, rfl, hr, kk⟩
        exact hK.out _ vr _ (by (try dsimp only) <;> simp only [Act.put, List.setIfInBounds_toArray, List.set_cons_zero, List.set_cons_succ, e16, e17, e18]) (HJ.out.callStep 19 vr _ HB.out kk hr (by rw [HS.out]; rfl) (by rw [HS.out]; rfl) (by rw [HS.out]; rfl) (by rw [HS.out]; rfl))
      refine StepsJ.cons ?_ ?_
      · intro b f w1 hb hw hJ K hK
        have HB := Lib.hid hb
        have HJ := Lib.hid hJ
        have HW := Lib.hid hw
        clear hJ hw hb
        try dsimp only
        have e16 : f 16 = .bool true := HJ.out.pure 16 _ (by rw [HS.out]; rfl) (HW.out 16 (by decide))
        simp only [e16]
        rw [if_pos (by rfl)]
        obtain ⟨xg0, xg1, xg2, _⟩ := (Bx_10.out.kp HJ.out.k).cells
        go_simp
        exact hK.out _ (.agg #[.bool xs, .slice xq1 xr1 xs1, .slice xq2 xr2 xs2]) _ (by (try dsimp only) <;> simp only [Act.put, List.setIfInBounds_toArray, List.set_cons_zero, List.set_cons_succ, e16]) (HJ.out.pureStep 20 _ HB.out (by rw [HS.out]; rfl) (by rw [HS.out]; rfl) (by rw [HS.out]; rfl) (by rw [HS.out]; rfl))
      refine StepsJ.cons ?_ ?_
      · intro b f w1 hb hw hJ K hK
        have HB := Lib.hid hb
        have HJ := Lib.hid hJ
        have HW := Lib.hid hw
        clear hJ hw hb
        try dsimp only
        have e16 : f 16 = .bool true := HJ.out.pure 16 _ (by rw [HS.out]; rfl) (HW.out 16 (by decide))
        simp only [e16]
        rw [if_pos (by rfl)]
        obtain ⟨yg0, yg1, yg2, _⟩ := (By_10.out.kp HJ.out.k).cells
        go_simp
        exact hK.out _ (.agg #[.bool ys, .slice yq1 yr1 ys1, .slice yq2 yr2 ys2]) _ (by (try dsimp only) <;> simp only [Act.put, List.setIfInBounds_toArray, List.set_cons_zero, List.set_cons_succ, e16]) (HJ.out.pureStep 21 _ HB.out (by rw [HS.out]; rfl) (by rw [HS.out]; rfl) (by rw [HS.out]; rfl) (by rw [HS.out]; rfl))
      refine StepsJ.cons ?_ ?_
      · intro b f w1 hb hw hJ K hK
        have HB := Lib.hid hb
        have HJ := Lib.hid hJ
        have HW := Lib.hid hw
        clear hJ hw hb
        try dsimp only
        have e16 : f 16 = .bool true := HJ.out.pure 16 _ (by rw [HS.out]; rfl) (HW.out 16 (by decide))
        have e20 : f 20 = .agg #[.bool xs, .slice xq1 xr1 xs1, .slice xq2 xr2 xs2] := HJ.out.pure 20 _ (by rw [HS.out]; rfl) (HW.out 20 (by decide))
        have e21 : f 21 = .agg #[.bool ys, .slice yq1 yr1 ys1, .slice yq2 yr2 ys2] := HJ.out.pure 21 _ (by rw [HS.out]; rfl) (HW.out 21 (by decide))
        simp only [e16, e20, e21]
        rw [if_pos (by rfl)]
        go_simp
        go_at_call 32
        (with_reducible refine (C8.out _ _ _ (Vx_10.out.kp HJ.out.k) (Vy_10.out.kp HJ.out.k)).mono ?_)
        rintro e w2 ⟨vr, rfl, hr, kk⟩
        exact hK.out _ vr _ (by (try dsimp only) <;> simp only [Act.put, List.setIfInBounds_toArray, List.set_cons_zero, List.set_cons_succ, e16, e20, e21]) (HJ.out.callStep 22 vr _ HB.out kk hr (by rw [HS.out]; rfl) (by rw [HS.out]; rfl) (by rw [HS.out]; rfl) (by rw [HS.out]; rfl))
      refine StepsJ.cons ?_ ?_
      · intro b f w1 hb hw hJ K hK
        have HB := Lib.hid hb
        have HJ := Lib.hid hJ
        have HW := Lib.hid hw
        clear hJ hw hb
        try dsimp only
        have e16 : f 16 = .bool true := HJ.out.pure 16 _ (by rw [HS.out]; rfl) (HW.out 16 (by decide))
        simp only [e16]
        rw [if_pos (by rfl)]
        have a19 := HJ.out.call 19 _ (by rw [HS.out]; rfl) (HW.out 19 (by decide))
        have a22 := HJ.out.call 22 _ (by rw [HS.out]; rfl) (HW.out 22 (by decide))
        have Ha19 := Lib.hid a19
        clear a19
        have Ha22 := Lib.hid a22
        clear a22
        go_simp
        go_at_call 19
        (with_reducible refine (C9.out _ _ _ Ha19.out Ha22.out).mono ?_)
        rintro e w2 ⟨rfl, kk⟩
        exact hK.out _ (.bool true) _ (by (try dsimp only) <;> simp only [Act.put, List.setIfInBounds_toArray, List.set_cons_zero, List.set_cons_succ, e16]) ((HJ.out.later kk).pureStep 23 _ HB.out (by rw [HS.out]; rfl) (by rw [HS.out]; rfl) (by rw [HS.out]; rfl) (by rw [HS.out]; rfl))
      refine StepsJ.cons ?_ ?_
      · intro b f w1 hb hw hJ K hK
        have HB := Lib.hid hb
        have HJ := Lib.hid hJ
        have HW := Lib.hid hw
        clear hJ hw hb
        try dsimp only
        have e16 : f 16 = .bool true := HJ.out.pure 16 _ (by rw [HS.out]; rfl) (HW.out 16 (by decide))
        have e23 : f 23 = .bool true := HJ.out.pure 23 _ (by rw [HS.out]; rfl) (HW.out 23 (by decide))
        simp only [e16, e23]
        rw [if_pos (by rfl)]
        go_simp
        exact hK.out _ (.bool true) _ (by (try dsimp only) <;> simp only [Act.put, List.setIfInBounds_toArray, List.set_cons_zero, List.set_cons_succ, e16, e23]) (HJ.out.pureStep 24 _ HB.out (by rw [HS.out]; rfl) (by rw [HS.out]; rfl) (by rw [HS.out]; rfl) (by rw [HS.out]; rfl))
      refine StepsJ.cons ?_ ?_
      · intro b f w1 hb hw hJ K hK
        have HB := Lib.hid hb
        have HJ := Lib.hid hJ
        have HW := Lib.hid hw
        clear hJ hw hb
        try dsimp only
        have e24 : f 24 = .bool true := HJ.out.pure 24 _ (by rw [HS.out]; rfl) (HW.out 24 (by decide))
        simp only [e24]
        rw [if_pos (by rfl)]
        go_simp
        exact hK.out _ (.bool true) _ (by (try dsimp only) <;> simp only [Act.put, List.setIfInBounds_toArray, List.set_cons_zero, List.set_cons_succ, e24]) (HJ.out.pureStep 25 _ HB.out (by rw [HS.out]; rfl) (by rw [HS.out]; rfl) (by rw [HS.out]; rfl) (by rw [HS.out]; rfl))
      refine StepsJ.cons ?_ ?_
      · intro b f w1 hb hw hJ K hK
        have HB := Lib.hid hb
        have HJ := Lib.hid hJ
        have HW := Lib.hid hw
        clear hJ hw hb
        try dsimp only
        have e25 : f 25 = .bool true := HJ.out.pure 25 _ (by rw [HS.out]; rfl) (HW.out 25 (by decide))
        simp only [e25]
        rw [if_pos (by rfl)]
        go_simp
        exact hK.out _ (.int .i64 0) _ (by (try dsimp only) <;> simp only [Act.put, List.setIfInBounds_toArray, List.set_cons_zero, List.set_cons_succ, e25]) (HJ.out.pureStep 26 _ HB.out (by rw [HS.out]; rfl) (by rw [HS.out]; rfl) (by rw [HS.out]; rfl) (by rw [HS.out]; rfl))
      refine StepsJ.cons ?_ ?_
      · intro b f w1 hb hw hJ K hK
        have HB := Lib.hid hb
        have HJ := Lib.hid hJ
        have HW := Lib.hid hw
        clear hJ hw hb
        try dsimp only
        have e25 : f 25 = .bool true := HJ.out.pure 25 _ (by rw [HS.out]; rfl) (HW.out 25 (by decide))
        simp only [e25]
        rw [if_pos (by rfl)]
        go_simp
        exact hK.out _ (.int .i64 0) _ (by (try dsimp only) <;> simp only [Act.put, List.setIfInBounds_toArray, List.set_cons_zero, List.set_cons_succ, e25]) (HJ.out.pureStep 27 _ HB.out (by rw [HS.out]; rfl) (by rw [HS.out]; rfl) (by rw [HS.out]; rfl) (by rw [HS.out]; rfl))
      refine StepsJ.cons ?_ ?_
      · intro b f w1 hb hw hJ K hK
        have HB := Lib.hid hb
        have HJ := Lib.hid hJ
        have HW := Lib.hid hw
        clear hJ hw hb
        try dsimp only
        have e25 : f 25 = .bool true := HJ.out.pure 25 _ (by rw [HS.out]; rfl) (HW.out 25 (by decide))
        have e26 : f 26 = .int .i64 0 := HJ.out.pure 26 _ (by rw [HS.out]; rfl) (HW.out 26 (by decide))
        have e27 : f 27 = .int .i64 0 := HJ.out.pure 27 _ (by rw [HS.out]; rfl) (HW.out 27 (by decide))
        simp only [e25, e26, e27]
        rw [if_pos (by rfl)]
        go_simp
        exact hK.out _ (.bool true) _ (by (try dsimp only) <;> simp only [Act.put, List.setIfInBounds_toArray, List.set_cons_zero, List.set_cons_succ, e25, e26, e27]) (HJ.out.pureStep 28 _ HB.out (by rw [HS.out]; rfl) (by rw [HS.out]; rfl) (by rw [HS.out]; rfl) (by rw [HS.out]; rfl))
      refine StepsJ.cons ?_ ?_
      · intro b f w1 hb hw hJ K hK
        have HB := Lib.hid hb
        have HJ := Lib.hid hJ
        have HW := Lib.hid hw
        clear hJ hw hb
        try dsimp only
        have e25 : f 25 = .bool true := HJ.out.pure 25 _ (by rw [HS.out]; rfl) (HW.out 25 (by decide))
        have e28 : f 28 = .bool true := HJ.out.pure 28 _ (by rw [HS.out]; rfl) (HW.out 28 (by decide))
        simp only [e25, e28]
        rw [if_pos (by rfl)]
        go_simp
        exact hK.out _ (.bool true) _ (by (try dsimp only) <;> simp only [Act.put, List.setIfInBounds_toArray, List.set_cons_zero, List.set_cons_succ, e25, e28]) (HJ.out.pureStep 29 _ HB.out (by rw [HS.out]; rfl) (by rw [HS.out]; rfl) (by rw [HS.out]; rfl) (by rw [HS.out]; rfl))
      refine StepsJ.cons ?_ ?_
      · intro b f w1 hb hw hJ K hK
        have HB := Lib.hid hb
        have HJ := Lib.hid hJ
        have HW := Lib.hid hw
        clear hJ hw hb
        try dsimp only
        have e29 : f 29 = .bool true := HJ.out.pure 29 _ (by rw [HS.out]; rfl) (HW.out 29 (by decide))
        simp only [e29]
        rw [if_pos (by rfl)]
        go_simp
        exact hK.out _ (.bool true) _ (by (try dsimp only) <;> simp only [Act.put, List.setIfInBounds_toArray, List.set_cons_zero, List.set_cons_succ, e29]) (HJ.out.pureStep 30 _ HB.out (by rw [HS.out]; rfl) (by rw [HS.out]; rfl) (by rw [HS.out]; rfl) (by rw [HS.out]; rfl))
      refine StepsJ.cons ?_ ?_
      · intro b f w1 hb hw hJ K hK
        have HB := Lib.hid hb
        have HJ := Lib.hid hJ
        have HW := Lib.hid hw
        clear hJ hw hb
        try dsimp only
        have e30 : f 30 = .bool true := HJ.out.pure 30 _ (by rw [HS.out]; rfl) (HW.out 30 (by decide))
        simp only [e30]
        rw [if_pos (by rfl)]
        obtain ⟨pg0, pg1, pg2, _⟩ := (Bp_10.out.kp HJ.out.k).cells
        go_simp
        exact hK.out _ (.agg #[.bool ps, .slice pq1 pr1 ps1, .slice pq2 pr2 ps2]) _ (by (try dsimp only) <;> simp only [Act.put, List.setIfInBounds_toArray, List.set_cons_zero, List.set_cons_succ, e30]) (HJ.out.pureStep 31 _ HB.out (by rw [HS.out]; rfl) (by rw [HS.out]; rfl) (by rw [HS.out]; rfl) (by rw [HS.out]; rfl))
      refine StepsJ.cons ?_ ?_
      · intro b f w1 hb hw hJ K hK
        have HB := Lib.hid hb
        have HJ := Lib.hid hJ
        have HW := Lib.hid hw
        clear hJ hw hb
        try dsimp only
        have e30 : f 30 = .bool true := HJ.out.pure 30 _ (by rw [HS.out]; rfl) (HW.out 30 (by decide))
        simp only [e30]
        rw [if_pos (by rfl)]
        obtain ⟨qg0, qg1, qg2, _⟩ := (Bq_10.out.kp HJ.out.k).cells
        go_simp
        exact hK.out _ (.agg #[.bool qs, .slice qq1 qr1 qs1, .slice qq2 qr2 qs2]) _ (by (try dsimp only) <;> simp only [Act.put, List.setIfInBounds_toArray, List.set_cons_zero, List.set_cons_succ, e30]) (HJ.out.pureStep 32 _ HB.out (by rw [HS.out]; rfl) (by rw [HS.out]; rfl) (by rw [HS.out]; rfl) (by rw [HS.out]; rfl))
      refine StepsJ.cons ?_ ?_
      · intro b f w1 hb hw hJ K hK
        have HB := Lib.hid hb
        have HJ := Lib.hid hJ
        have HW := Lib.hid hw
        clear hJ hw hb
        try dsimp only
        have e30 : f 30 = .bool true := HJ.out.pure 30 _ (by rw [HS.out]; rfl) (HW.out 30 (by decide))
        have e31 : f 31 = .agg #[.bool ps, .slice pq1 pr1 ps1, .slice pq2 pr2 ps2] := HJ.out.pure 31 _ (by rw [HS.out]; rfl) (HW.out 31 (by decide))
        have e32 : f 32 = .agg #[.bool qs, .slice qq1 qr1 qs1, .slice qq2 qr2 qs2] := HJ.out.pure 32 _ (by rw [HS.out]; rfl) (HW.out 32 (by decide))
        simp only [e30, e31, e32]
        rw [if_pos (by rfl)]
        go_simp
        go_at_call 19
        (with_reducible refine (C10.out _ _ _ (Vp_10.out.kp HJ.out.k) (Vq_10.out.kp HJ.out.k)).mono ?_)
        rintro e w2 ⟨rfl, kk⟩
        exact hK.out _ (.bool true) _ (by (try dsimp only) <;> simp only [Act.put, List.setIfInBounds_toArray, List.set_cons_zero, List.set_cons_succ, e30, e31, e32]) ((HJ.out.later kk).pureStep 33 _ HB.out (by rw [HS.out]; rfl) (by rw [HS.out]; rfl) (by rw [HS.out]; rfl) (by rw [HS.out]; rfl))
      refine StepsJ.cons ?_ ?_
      · intro b f w1 hb hw hJ K hK
        have HB := Lib.hid hb
        have HJ := Lib.hid hJ
        have HW := Lib.hid hw
        clear hJ hw hb
        try dsimp only
        have e30 : f 30 = .bool true := HJ.out.pure 30 _ (by rw [HS.out]; rfl) (HW.out 30 (by decide))
        have e33 : f 33 = .bool true := HJ.out.pure 33 _ (by rw [HS.out]; rfl) (HW.out 33 (by decide))
        simp only [e30, e33]
        rw [if_pos (by rfl)]
        go_simp
        exact hK.out _ (.bool true) _ (by (try dsimp only) <;> simp only [Act.put, List.setIfInBounds_toArray, List.set_cons_zero, List.set_cons_succ, e30, e33]) (HJ.out.pureStep 34 _ HB.out (by rw [HS.out]; rfl) (by rw [HS.out]; rfl) (by rw [HS.out]; rfl) (by rw [HS.out]; rfl))
      refine StepsJ.cons ?_ ?_
      · intro b f w1 hb hw hJ K hK
        have HB := Lib.hid hb
        have HJ := Lib.hid hJ
        have HW := Lib.hid hw
        clear hJ hw hb
        try dsimp only
        have e34 : f 34 = .bool true := HJ.out.pure 34 _ (by rw [HS.out]; rfl) (HW.out 34 (by decide))
        simp only [e34]
        rw [if_pos (by rfl)]
        go_simp
        exact hK.out _ (.bool true) _ (by (try dsimp only) <;> simp only [Act.put, List.setIfInBounds_toArray, List.set_cons_zero, List.set_cons_succ, e34]) (HJ.out.pureStep 35 _ HB.out (by rw [HS.out]; rfl) (by rw [HS.out]; rfl) (by rw [HS.out]; rfl) (by rw [HS.out]; rfl))
      refine StepsJ.cons ?_ ?_
      · intro b f w1 hb hw hJ K hK
        have HB := Lib.hid hb
        have HJ := Lib.hid hJ
        have HW := Lib.hid hw
        clear hJ hw hb
        try dsimp only
        have e35 : f 35 = .bool true := HJ.out.pure 35 _ (by rw [HS.out]; rfl) (HW.out 35 (by decide))
        simp only [e35]
        rw [if_pos (by rfl)]
        go_simp
        go_at_call 14
        (with_reducible refine (CAW.out _ (T_10.out.kp HJ.out.k).k (Z_10.out.kp HJ.out.k)).mono ?_)
        rintro e w2 ⟨rfl, kk⟩
        exact hK.out _ (.bool true) _ (by (try dsimp only) <;> simp only [Act.put, List.setIfInBounds_toArray, List.set_cons_zero, List.set_cons_succ, e35]) ((HJ.out.later kk).pureStep 36 _ HB.out (by rw [HS.out]; rfl) (by rw [HS.out]; rfl) (by rw [HS.out]; rfl) (by rw [HS.out]; rfl))
      refine StepsJ.cons ?_ ?_
      · intro b f w1 hb hw hJ K hK
        have HB := Lib.hid hb
        have HJ := Lib.hid hJ
        have HW := Lib.hid hw
        clear hJ hw hb
        try dsimp only
        have e35 : f 35 = .bool true := HJ.out.pure 35 _ (by rw [HS.out]; rfl) (HW.out 35 (by decide))
        have e36 : f 36 = .bool true := HJ.out.pure 36 _ (by rw [HS.out]; rfl) (HW.out 36 (by decide))
        simp only [e35, e36]
        rw [if_pos (by rfl)]
        go_simp
        exact hK.out _ (.bool true) _ (by (try dsimp only) <;> simp only [Act.put, List.setIfInBounds_toArray, List.set_cons_zero, List.set_cons_succ, e35, e36]) (HJ.out.pureStep 37 _ HB.out (by rw [HS.out]; rfl) (by rw [HS.out]; rfl) (by rw [HS.out]; rfl) (by rw [HS.out]; rfl))
      refine StepsJ.cons ?_ ?_
      · intro b f w1 hb hw hJ K hK
        have HB := Lib.hid hb
        have HJ := Lib.hid hJ
        have HW := Lib.hid hw
        clear hJ hw hb
        try dsimp only
        have e37 : f 37 = .bool true := HJ.out.pure 37 _ (by rw [HS.out]; rfl) (HW.out 37 (by decide))
        simp only [e37]
        rw [if_pos (by rfl)]
        go_simp
        exact hK.out _ (.bool true) _ (by (try dsimp only) <;> simp only [Act.put, List.setIfInBounds_toArray, List.set_cons_zero, List.set_cons_succ, e37]) (HJ.out.pureStep 38 _ HB.out (by rw [HS.out]; rfl) (by rw [HS.out]; rfl) (by rw [HS.out]; rfl) (by rw [HS.out]; rfl))
      exact StepsJ.nil
    case hend =>
      intro b f w11 hb hJ
      try dsimp only
      have e38 : f 38 = .bool true := hJ.pure 38 _ (by rw [HS.out]; rfl) (hb 38 (by decide))
      have kk := hJ.k
      clear hJ hb
      have T_11 := Lib.hid (T_10.out.kp kk)
      have Z_11 := Lib.hid (Z_10.out.kp kk)
      have Vx_11 := Lib.hid (Vx_10.out.kp kk)
      have Bx_11 := Lib.hid (Bx_10.out.kp kk)
      have Vy_11 := Lib.hid (Vy_10.out.kp kk)
      have By_11 := Lib.hid (By_10.out.kp kk)
      have Vp_11 := Lib.hid (Vp_10.out.kp kk)
      have Bp_11 := Lib.hid (Bp_10.out.kp kk)
      have Vq_11 := Lib.hid (Vq_10.out.kp kk)
      have Bq_11 := Lib.hid (Bq_10.out.kp kk)
      clear kk T_10 Z_10 Vx_10 Bx_10 Vy_10 By_10 Vp_10 Bp_10 Vq_10 Bq_10
      simp only [e38]
      clear e38
      generalize f 0 = yb0
      generalize f 1 = yb1
      generalize f 2 = yb2
      generalize f 3 = yb3
      generalize f 4 = yb4
      generalize f 5 = yb5
      generalize f 6 = yb6
      generalize f 7 = yb7
      generalize f 8 = yb8
      generalize f 9 = yb9
      generalize f 10 = yb10
      generalize f 11 = yb11
      generalize f 12 = yb12
      generalize f 13 = yb13
      generalize f 14 = yb14
      generalize f 15 = yb15
      generalize f 16 = yb16
      generalize f 17 = yb17
      generalize f 18 = yb18
      generalize f 19 = yb19
      generalize f 20 = yb20
      generalize f 21 = yb21
      generalize f 22 = yb22
      generalize f 23 = yb23
      generalize f 24 = yb24
      generalize f 25 = yb25
      generalize f 26 = yb26
      generalize f 27 = yb27
      generalize f 28 = yb28
      generalize f 29 = yb29
      generalize f 30 = yb30
      generalize f 31 = yb31
      generalize f 32 = yb32
      generalize f 33 = yb33
      generalize f 34 = yb34
      generalize f 35 = yb35
      generalize f 36 = yb36
      generalize f 37 = yb37
      clear HS S f b
      obtain ⟨xz0, xz1, xz2⟩ := T_11.out.ra.cells
      obtain ⟨yz0, yz1, yz2⟩ := T_11.out.rb.cells
      obtain ⟨xg0, xg1, xg2, _⟩ := Bx_11.out.cells
      obtain ⟨yg0, yg1, yg2, _⟩ := By_11.out.cells
      obtain ⟨pg0, pg1, pg2, _⟩ := Bp_11.out.cells
      obtain ⟨qg0, qg1, qg2, _⟩ := Bq_11.out.cells
      go_wp2
      go_ret
      exact ⟨rfl, T_11.out.k⟩

theorem sums_walk {w : World} {sa : Bool} {ua ub : Value} {n1 d1 : List Nat} {sb : Bool} {va vb : Value} {n2 d2 : List Nat} (hua : Rd w ua n1) (hub : Rd w ub d1) (hva : Rd w va n2) (hvb : Rd w vb d2) (htab : Lib.TabIs Tryz.prog w "internal/strconv.uint64pow10" .u64 Lib.pow10Tab) (hZ : Tz w) :
    Calls Tryz.prog 5 #[.agg #[.bool sa, ua, ub], .agg #[.bool sb, va, vb]] w fun e w' => e = .returned (.bool true) ∧ Kp w w' := by
  by_cases hl1 : n1.length ≤ 16 ∧ d1.length ≤ 16
  rotate_left
  · exact sums_no1 hua hub hva hvb hl1 htab hZ
  by_cases hl2 : n2.length ≤ 16 ∧ d2.length ≤ 16
  rotate_left
  · exact sums_no2 hua hub hva hvb hl1 hl2 htab hZ
  by_cases h0 : numR sb n2 d2 = 0
  · exact sums_zero hua hub hva hvb h0 ⟨hl1, hl2⟩ htab hZ
  · exact sums_some hua hub hva hvb h0 ⟨hl1, hl2⟩ htab hZ
end Go.Proofs.YtmnnnoeenfmckaaGreatDoor
