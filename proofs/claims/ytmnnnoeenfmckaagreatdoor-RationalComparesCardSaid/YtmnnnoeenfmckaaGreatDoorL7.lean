/-
  brepkernellaw02.RationalCompares: by the contracts.
-/
import Derived.Test.YtmnnnoeenfmckaaGreatDoorReg
import Derived.Test.YtmnnnoeenfmckaaGreatDoorRw
import Derived.Test.YtmnnnoeenfmckaaGreatDoorBq
import Derived.Test.YtmnnnoeenfmckaaGreatDoorRatR
import Derived.Test.YtmnnnoeenfmckaaGreatDoorBr
import Derived.Test.YtmnnnoeenfmckaaGreatDoorBt
import Derived.Test.YtmnnnoeenfmckaaGreatDoorBs
import Derived.Test.YtmnnnoeenfmckaaGreatDoorBn
import Derived.Test.YtmnnnoeenfmckaaGreatDoorBo
import Derived.Test.YtmnnnoeenfmckaaGreatDoorBw
namespace Go.Proofs.YtmnnnoeenfmckaaGreatDoor
open Go.RowKit

set_option maxRecDepth 20000 in
set_option maxHeartbeats 4000000 in
theorem compares_no1 {w : World} {sa : Bool} {ua ub : Value} {n1 d1 : List Nat} {sb : Bool} {va vb : Value} {n2 d2 : List Nat} (hua : Rd w ua n1) (hub : Rd w ub d1) (hva : Rd w va n2) (hvb : Rd w vb d2) (hn : ¬ (n1.length ≤ 16 ∧ d1.length ≤ 16)) (htab : Lib.TabIs Tryz.prog w "internal/strconv.uint64pow10" .u64 Lib.pow10Tab) (hZ : Tz w) :
    Calls Tryz.prog 6 #[.agg #[.bool sa, ua, ub], .agg #[.bool sb, va, vb]] w fun e w' => e = .returned (.bool true) ∧ Kp w w' := by
  have HTB := Lib.hid (Lib.tabBelow_of_tabIs htab)
  have HZ := Lib.hid hZ
  have CAW := Lib.hid (fun w' (kk : Kp w w') (t : Tz w') => qawake_any w' t (tabKp HTB.out kk))
  have CL1 := Lib.hid (fun w' (kk : Kp w w') => qlight_no (s := sa) (hua.kp kk) (hub.kp kk) hn)
  obtain ⟨xo1, xl1, xc1, rfl⟩ := rd_slice hua
  obtain ⟨xo2, xl2, xc2, rfl⟩ := rd_slice hub
  obtain ⟨yo1, yl1, yc1, rfl⟩ := rd_slice hva
  obtain ⟨yo2, yl2, yc2, rfl⟩ := rd_slice hvb
  have HT := Lib.hid (Rw2.new w (.bool sa) (.slice xo1 xl1 xc1) (.slice xo2 xl2 xc2) (.bool sb) (.slice yo1 yl1 yc1) (.slice yo2 yl2 yc2))
  clear hua hub hva hvb htab hZ hn
  go_enter Tryz.func6, Tryz.ntmps6
  have Z_e := Lib.hid (HZ.out.kp HT.out.k)
  obtain ⟨xz0, xz1, xz2⟩ := HT.out.ra.cells
  obtain ⟨yz0, yz1, yz2⟩ := HT.out.rb.cells
  go_wp2_with (go_at_call 13; (with_reducible refine (CL1.out _ HT.out.k).mono ?_); rintro e w2 ⟨rfl, k2⟩; refine Hid.out ?_)
  refine Lib.hid ?_
  have T_2 := Lib.hid (HT.out.kp k2)
  have Z_2 := Lib.hid (Z_e.out.kp k2)
  clear HT Z_e
  clear k2
  obtain ⟨xz0, xz1, xz2⟩ := T_2.out.ra.cells
  obtain ⟨yz0, yz1, yz2⟩ := T_2.out.rb.cells
  go_wp2_with (go_at_call 14; (with_reducible refine (CAW.out _ T_2.out.k Z_2.out).mono ?_); rintro e w3 ⟨rfl, k3⟩; refine Hid.out ?_)
  refine Lib.hid ?_
  have T_3 := Lib.hid (T_2.out.kp k3)
  have Z_3 := Lib.hid (Z_2.out.kp k3)
  clear T_2 Z_2
  clear k3
  obtain ⟨xz0, xz1, xz2⟩ := T_3.out.ra.cells
  obtain ⟨yz0, yz1, yz2⟩ := T_3.out.rb.cells
  go_wp2
  go_ret
  exact ⟨rfl, T_3.out.k⟩

set_option maxRecDepth 20000 in
set_option maxHeartbeats 4000000 in
theorem compares_no2 {w : World} {sa : Bool} {ua ub : Value} {n1 d1 : List Nat} {sb : Bool} {va vb : Value} {n2 d2 : List Nat} (hua : Rd w ua n1) (hub : Rd w ub d1) (hva : Rd w va n2) (hvb : Rd w vb d2) (hl1 : n1.length ≤ 16 ∧ d1.length ≤ 16) (hn : ¬ (n2.length ≤ 16 ∧ d2.length ≤ 16)) (htab : Lib.TabIs Tryz.prog w "internal/strconv.uint64pow10" .u64 Lib.pow10Tab) (hZ : Tz w) :
    Calls Tryz.prog 6 #[.agg #[.bool sa, ua, ub], .agg #[.bool sb, va, vb]] w fun e w' => e = .returned (.bool true) ∧ Kp w w' := by
  have HTB := Lib.hid (Lib.tabBelow_of_tabIs htab)
  have HZ := Lib.hid hZ
  have CAW := Lib.hid (fun w' (kk : Kp w w') (t : Tz w') => qawake_any w' t (tabKp HTB.out kk))
  have CL1 := Lib.hid (fun w' (kk : Kp w w') => qlight_yes (s := sa) (hua.kp kk) (hub.kp kk) hl1)
  have CL2 := Lib.hid (fun w' (kk : Kp w w') => qlight_no (s := sb) (hva.kp kk) (hvb.kp kk) hn)
  obtain ⟨xo1, xl1, xc1, rfl⟩ := rd_slice hua
  obtain ⟨xo2, xl2, xc2, rfl⟩ := rd_slice hub
  obtain ⟨yo1, yl1, yc1, rfl⟩ := rd_slice hva
  obtain ⟨yo2, yl2, yc2, rfl⟩ := rd_slice hvb
  have HT := Lib.hid (Rw2.new w (.bool sa) (.slice xo1 xl1 xc1) (.slice xo2 xl2 xc2) (.bool sb) (.slice yo1 yl1 yc1) (.slice yo2 yl2 yc2))
  clear hua hub hva hvb htab hZ hn hl1
  go_enter Tryz.func6, Tryz.ntmps6
  have Z_e := Lib.hid (HZ.out.kp HT.out.k)
  obtain ⟨xz0, xz1, xz2⟩ := HT.out.ra.cells
  obtain ⟨yz0, yz1, yz2⟩ := HT.out.rb.cells
  go_wp2_with (go_at_call 13; (with_reducible refine (CL1.out _ HT.out.k).mono ?_); rintro e w2 ⟨rfl, k2⟩; refine Hid.out ?_)
  refine Lib.hid ?_
  have T_2 := Lib.hid (HT.out.kp k2)
  have Z_2 := Lib.hid (Z_e.out.kp k2)
  clear HT Z_e
  clear k2
  obtain ⟨xz0, xz1, xz2⟩ := T_2.out.ra.cells
  obtain ⟨yz0, yz1, yz2⟩ := T_2.out.rb.cells
  go_wp2_with (go_at_call 13; (with_reducible refine (CL2.out _ T_2.out.k).mono ?_); rintro e w3 ⟨rfl, k3⟩; refine Hid.out ?_)
  refine Lib.hid ?_
  have T_3 := Lib.hid (T_2.out.kp k3)
  have Z_3 := Lib.hid (Z_2.out.kp k3)
  clear T_2 Z_2
  clear k3
  obtain ⟨xz0, xz1, xz2⟩ := T_3.out.ra.cells
  obtain ⟨yz0, yz1, yz2⟩ := T_3.out.rb.cells
  go_wp2_with (go_at_call 14; (with_reducible refine (CAW.out _ T_3.out.k Z_3.out).mono ?_); rintro e w4 ⟨rfl, k4⟩; refine Hid.out ?_)
  refine Lib.hid ?_
  have T_4 := Lib.hid (T_3.out.kp k4)
  have Z_4 := Lib.hid (Z_3.out.kp k4)
  clear T_3 Z_3
  clear k4
  obtain ⟨xz0, xz1, xz2⟩ := T_4.out.ra.cells
  obtain ⟨yz0, yz1, yz2⟩ := T_4.out.rb.cells
  go_wp2
  go_ret
  exact ⟨rfl, T_4.out.k⟩

set_option maxRecDepth 20000 in
set_option maxHeartbeats 4000000 in
theorem compares_yes {w : World} {sa : Bool} {ua ub : Value} {n1 d1 : List Nat} {sb : Bool} {va vb : Value} {n2 d2 : List Nat} (hua : Rd w ua n1) (hub : Rd w ub d1) (hva : Rd w va n2) (hvb : Rd w vb d2) (hl : (n1.length ≤ 16 ∧ d1.length ≤ 16) ∧ (n2.length ≤ 16 ∧ d2.length ≤ 16)) (htab : Lib.TabIs Tryz.prog w "internal/strconv.uint64pow10" .u64 Lib.pow10Tab) (hZ : Tz w) :
    Calls Tryz.prog 6 #[.agg #[.bool sa, ua, ub], .agg #[.bool sb, va, vb]] w fun e w' => e = .returned (.bool true) ∧ Kp w w' := by
  have HTB := Lib.hid (Lib.tabBelow_of_tabIs htab)
  have HZ := Lib.hid hZ
  have CAW := Lib.hid (fun w' (kk : Kp w w') (t : Tz w') => qawake_any w' t (tabKp HTB.out kk))
  obtain ⟨hl1, hl2⟩ := hl
  have CL1 := Lib.hid (fun w' (kk : Kp w w') => qlight_yes (s := sa) (hua.kp kk) (hub.kp kk) hl1)
  have CN1 := Lib.hid (fun w' (kk : Kp w w') => number_any (s := sa) (hua.kp kk) (hub.kp kk) hl1.1 hl1.2)
  have Sx : RSz 16 (numR sa n1 d1) := rsz_num hua hub hl1.1 hl1.2
  obtain ⟨Xx, hXx⟩ : ∃ X, X = (numR sa n1 d1) := ⟨_, rfl⟩
  rw [← hXx] at CN1 Sx
  clear hXx
  have CL2 := Lib.hid (fun w' (kk : Kp w w') => qlight_yes (s := sb) (hva.kp kk) (hvb.kp kk) hl2)
  have CN2 := Lib.hid (fun w' (kk : Kp w w') => number_any (s := sb) (hva.kp kk) (hvb.kp kk) hl2.1 hl2.2)
  have Sy : RSz 16 (numR sb n2 d2) := rsz_num hva hvb hl2.1 hl2.2
  obtain ⟨Xy, hXy⟩ : ∃ X, X = (numR sb n2 d2) := ⟨_, rfl⟩
  rw [← hXy] at CN2 Sy
  clear hXy
  obtain ⟨xo1, xl1, xc1, rfl⟩ := rd_slice hua
  obtain ⟨xo2, xl2, xc2, rfl⟩ := rd_slice hub
  obtain ⟨yo1, yl1, yc1, rfl⟩ := rd_slice hva
  obtain ⟨yo2, yl2, yc2, rfl⟩ := rd_slice hvb
  have HT := Lib.hid (Rw2.new w (.bool sa) (.slice xo1 xl1 xc1) (.slice xo2 xl2 xc2) (.bool sb) (.slice yo1 yl1 yc1) (.slice yo2 yl2 yc2))
  obtain ⟨bs, hbs⟩ : ∃ b : Bool, b = decide (Xx = Xy) := ⟨_, rfl⟩
  obtain ⟨cv, hcv⟩ : ∃ c : Int, c = cmpR Xx Xy := ⟨_, rfl⟩
  obtain ⟨sv, hsv⟩ : ∃ c : Int, c = sgnR Xx := ⟨_, rfl⟩
  have C1 := Lib.hid (fun w' a b (ha : RatV w' a (Xx)) (hb : RatV w' b (Xy)) => rsame_any ha hb)
  rw [← hbs] at C1
  have C2 := Lib.hid (fun w' a b (ha : RatV w' a (Xx)) (hb : RatV w' b (Xy)) => rqsame_any ha hb)
  rw [← hbs] at C2
  have C3 := Lib.hid (fun w' a b (ha : RatV w' a (Xx)) (hb : RatV w' b (Xx)) => by have h := rsame_any ha hb; rw [decide_eq_true (show (Xx) = (Xx) from rfl)] at h; exact h)
  have C4 := Lib.hid (fun w' a b (ha : RatV w' a (Xx)) (hb : RatV w' b (Xy)) (t : Tz w') => qcmp_any ha hb Sx Sy (by omega) (by omega) t)
  rw [← hcv] at C4
  have C5 := Lib.hid (fun w' a b (ha : RatV w' a (Xx)) (hb : RatV w' b (Xy)) => rqcmp_any ha hb Sx Sy (by omega) (by omega))
  rw [← hcv] at C5
  have C6 := Lib.hid (fun w' a (ha : RatV w' a (Xx)) => sign_any ha)
  rw [← hsv] at C6
  have C7 := Lib.hid (fun w' a (ha : RatV w' a (Xx)) => rqsign_any ha)
  rw [← hsv] at C7
  have C8 := Lib.hid (fun w' a (ha : RatV w' a (Xx)) => qneg_any ha Sx (by omega))
  have C9 := Lib.hid (fun w' a (ha : RatV w' a (Xx)) => rqneg_any ha)
  have C10 := Lib.hid (fun w' a b (ha : RatV w' a ((-Xx))) (hb : RatV w' b ((-Xx))) => by have h := rqsame_any ha hb; rw [decide_eq_true (show ((-Xx)) = ((-Xx)) from rfl)] at h; exact h)
  have C11 := Lib.hid (fun w' a (ha : RatV w' a (Xx)) => qabs_any ha Sx (by omega))
  have C12 := Lib.hid (fun w' a (ha : RatV w' a (Xx)) => rqabs_any ha)
  have C13 := Lib.hid (fun w' a b (ha : RatV w' a ((ratOf false Xx.num.natAbs Xx.den))) (hb : RatV w' b ((ratOf false Xx.num.natAbs Xx.den))) => by have h := rqsame_any ha hb; rw [decide_eq_true (show ((ratOf false Xx.num.natAbs Xx.den)) = ((ratOf false Xx.num.natAbs Xx.den)) from rfl)] at h; exact h)
  have C14 := Lib.hid (fun w' a b (ha : RatV w' a (Xx)) (hb : RatV w' b (Xy)) (t : Tz w') => qmin_any ha hb Sx Sy (by omega) (by omega) t)
  have C15 := Lib.hid (fun w' a b (ha : RatV w' a (Xx)) (hb : RatV w' b (Xy)) => rqmin_any ha hb Sx Sy (by omega) (by omega))
  have C16 := Lib.hid (fun w' a b (ha : RatV w' a ((if cmpR Xx Xy ≤ 0 then Xx else Xy))) (hb : RatV w' b ((if cmpR Xy Xx < 0 then Xy else Xx))) => by have h := rqsame_any ha hb; rw [decide_eq_true (show ((if cmpR Xx Xy ≤ 0 then Xx else Xy)) = ((if cmpR Xy Xx < 0 then Xy else Xx)) from min_same Xx Xy)] at h; exact h)
  have C17 := Lib.hid (fun w' a b (ha : RatV w' a (Xx)) (hb : RatV w' b (Xy)) (t : Tz w') => qmax_any ha hb Sx Sy (by omega) (by omega) t)
  have C18 := Lib.hid (fun w' a b (ha : RatV w' a (Xx)) (hb : RatV w' b (Xy)) => rqmax_any ha hb Sx Sy (by omega) (by omega))
  have C19 := Lib.hid (fun w' a b (ha : RatV w' a ((if 0 ≤ cmpR Xx Xy then Xx else Xy))) (hb : RatV w' b ((if 0 < cmpR Xy Xx then Xy else Xx))) => by have h := rqsame_any ha hb; rw [decide_eq_true (show ((if 0 ≤ cmpR Xx Xy then Xx else Xy)) = ((if 0 < cmpR Xy Xx then Xy else Xx)) from max_same Xx Xy)] at h; exact h)
  have C20 := Lib.hid (fun w' a b (ha : RatV w' a (Xx)) (hb : RatV w' b (Xy)) (t : Tz w') => qmid_any ha hb Sx Sy (by omega) (by omega) t)
  have C21 := Lib.hid (fun w' a b (ha : RatV w' a (Xx)) (hb : RatV w' b (Xy)) => rqmid_any ha hb Sx Sy (by omega) (by omega))
  have C22 := Lib.hid (fun w' a b (ha : RatV w' a (((Xx + Xy) * ratOf false 1 2))) (hb : RatV w' b (((Xx + Xy) * ratOf false 1 2))) => by have h := rqsame_any ha hb; rw [decide_eq_true (show (((Xx + Xy) * ratOf false 1 2)) = (((Xx + Xy) * ratOf false 1 2)) from rfl)] at h; exact h)
  clear hbs hcv hsv
  clear hua hub hl1 Sx hva hvb hl2 Sy htab hZ
  go_enter Tryz.func6, Tryz.ntmps6
  have Z_e := Lib.hid (HZ.out.kp HT.out.k)
  obtain ⟨xz0, xz1, xz2⟩ := HT.out.ra.cells
  obtain ⟨yz0, yz1, yz2⟩ := HT.out.rb.cells
  go_wp2_with (go_at_call 13; (with_reducible refine (CL1.out _ HT.out.k).mono ?_); rintro e w2 ⟨rfl, k2⟩; refine Hid.out ?_)
  refine Lib.hid ?_
  have T_2 := Lib.hid (HT.out.kp k2)
  have Z_2 := Lib.hid (Z_e.out.kp k2)
  clear HT Z_e
  clear k2
  obtain ⟨xz0, xz1, xz2⟩ := T_2.out.ra.cells
  obtain ⟨yz0, yz1, yz2⟩ := T_2.out.rb.cells
  go_wp2_with (go_at_call 13; (with_reducible refine (CL2.out _ T_2.out.k).mono ?_); rintro e w3 ⟨rfl, k3⟩; refine Hid.out ?_)
  refine Lib.hid ?_
  have T_3 := Lib.hid (T_2.out.kp k3)
  have Z_3 := Lib.hid (Z_2.out.kp k3)
  clear T_2 Z_2
  clear k3
  obtain ⟨xz0, xz1, xz2⟩ := T_3.out.ra.cells
  obtain ⟨yz0, yz1, yz2⟩ := T_3.out.rb.cells
  go_upto_region 3 with fail
  have T_4 := Lib.hid (T_3.out.kp (Below.refl _ _).drew)
  have Z_4 := Lib.hid (Z_3.out.kp (Below.refl _ _).drew)
  clear T_3 Z_3
  obtain ⟨S, hS⟩ : ∃ S : Plan, S = ⟨[(0, .agg #[.bool sa, .slice xo1 xl1 xc1, .slice xo2 xl2 xc2]), (2, .agg #[.bool sb, .slice yo1 yl1 yc1, .slice yo2 yl2 yc2])], [(1, Xx), (3, Xy)], [], [⟨4, 6, 1⟩, ⟨5, 7, 3⟩]⟩ := ⟨_, rfl⟩
  have HS := Lib.hid hS
  clear hS
  refine' wp_region_inv (F := _) (by kernel_rfl) (by kernel_rfl) (by kernel_rfl) (PJ S _) (PJ.begin _ _ _) ?hF ?hsteps ?hend
  case hF => intro f; (try simp only [List.append]); simp only [putAll, Act.put, List.setIfInBounds_toArray, List.set_cons_zero, List.set_cons_succ, Nat.zero_add, Nat.reduceAdd]; exact rfl
  case hsteps =>
    refine StepsJ.cons ?_ ?_
    · intro b f w1 hb hw hJ K hK
      have HB := Lib.hid hb
      have HJ := Lib.hid hJ
      have HW := Lib.hid hw
      clear hJ hw hb
      try dsimp only
      rw [if_pos (by rfl)]
      obtain ⟨xz0, xz1, xz2⟩ := (T_4.out.kp HJ.out.k).ra.cells
      go_simp
      exact hK.out _ (.agg #[.bool sa, .slice xo1 xl1 xc1, .slice xo2 xl2 xc2]) _ (by (try dsimp only) <;> simp only [Act.put, List.setIfInBounds_toArray, List.set_cons_zero, List.set_cons_succ]) (HJ.out.pureStep 0 _ HB.out (by rw [HS.out]; rfl) (by rw [HS.out]; rfl) (by rw [HS.out]; rfl) (by rw [HS.out]; rfl))
    refine StepsJ.cons ?_ ?_
    · intro b f w1 hb hw hJ K hK
      have HB := Lib.hid hb
      have HJ := Lib.hid hJ
      have HW := Lib.hid hw
      clear hJ hw hb
      try dsimp only
      have e0 : f 0 = .agg #[.bool sa, .slice xo1 xl1 xc1, .slice xo2 xl2 xc2] := HJ.out.pure 0 _ (by rw [HS.out]; rfl) (HW.out 0 (by decide))
      simp only [e0]
      rw [if_pos (by rfl)]
      go_simp
      go_at_call 24
      (with_reducible refine (CN1.out _ (T_4.out.kp HJ.out.k).k).mono ?_)
      rintro e w2 ⟨vr, rfl, hr, kk⟩
      exact hK.out _ vr _ (by (try dsimp only) <;> simp only [Act.put, List.setIfInBounds_toArray, List.set_cons_zero, List.set_cons_succ, e0]) (HJ.out.callStep 1 vr _ HB.out kk hr (by rw [HS.out]; rfl) (by rw [HS.out]; rfl) (by rw [HS.out]; rfl) (by rw [HS.out]; rfl))
    refine StepsJ.cons ?_ ?_
    · intro b f w1 hb hw hJ K hK
      have HB := Lib.hid hb
      have HJ := Lib.hid hJ
      have HW := Lib.hid hw
      clear hJ hw hb
      try dsimp only
      rw [if_pos (by rfl)]
      obtain ⟨yz0, yz1, yz2⟩ := (T_4.out.kp HJ.out.k).rb.cells
      go_simp
      exact hK.out _ (.agg #[.bool sb, .slice yo1 yl1 yc1, .slice yo2 yl2 yc2]) _ (by (try dsimp only) <;> simp only [Act.put, List.setIfInBounds_toArray, List.set_cons_zero, List.set_cons_succ]) (HJ.out.pureStep 2 _ HB.out (by rw [HS.out]; rfl) (by rw [HS.out]; rfl) (by rw [HS.out]; rfl) (by rw [HS.out]; rfl))
    refine StepsJ.cons ?_ ?_
    · intro b f w1 hb hw hJ K hK
      have HB := Lib.hid hb
      have HJ := Lib.hid hJ
      have HW := Lib.hid hw
      clear hJ hw hb
      try dsimp only
      have e2 : f 2 = .agg #[.bool sb, .slice yo1 yl1 yc1, .slice yo2 yl2 yc2] := HJ.out.pure 2 _ (by rw [HS.out]; rfl) (HW.out 2 (by decide))
      simp only [e2]
      rw [if_pos (by rfl)]
      go_simp
      go_at_call 24
      (with_reducible refine (CN2.out _ (T_4.out.kp HJ.out.k).k).mono ?_)
      rintro e w2 ⟨vr, rfl, hr, kk⟩
      exact hK.out _ vr _ (by (try dsimp only) <;> simp only [Act.put, List.setIfInBounds_toArray, List.set_cons_zero, List.set_cons_succ, e2]) (HJ.out.callStep 3 vr _ HB.out kk hr (by rw [HS.out]; rfl) (by rw [HS.out]; rfl) (by rw [HS.out]; rfl) (by rw [HS.out]; rfl))
    refine StepsJ.cons ?_ ?_
    · intro b f w1 hb hw hJ K hK
      have HB := Lib.hid hb
      have HJ := Lib.hid hJ
      have HW := Lib.hid hw
      clear hJ hw hb
      try dsimp only
      rw [if_pos (by rfl)]
      go_simp
      exact hK.out _ _ _ (by (try dsimp only) <;> simp only [Act.put, List.setIfInBounds_toArray, List.set_cons_zero, List.set_cons_succ]) (HJ.out.allocStep 4 HB.out (by rw [HS.out]; rfl) (by rw [HS.out]; rfl) (by rw [HS.out]; rfl) (by rw [HS.out]; rfl))
    refine StepsJ.cons ?_ ?_
    · intro b f w1 hb hw hJ K hK
      have HB := Lib.hid hb
      have HJ := Lib.hid hJ
      have HW := Lib.hid hw
      clear hJ hw hb
      try dsimp only
      rw [if_pos (by rfl)]
      go_simp
      exact hK.out _ _ _ (by (try dsimp only) <;> simp only [Act.put, List.setIfInBounds_toArray, List.set_cons_zero, List.set_cons_succ]) (HJ.out.allocStep 5 HB.out (by rw [HS.out]; rfl) (by rw [HS.out]; rfl) (by rw [HS.out]; rfl) (by rw [HS.out]; rfl))
    refine StepsJ.cons ?_ ?_
    · intro b f w1 hb hw hJ K hK
      have HB := Lib.hid hb
      have HJ := Lib.hid hJ
      have HW := Lib.hid hw
      clear hJ hw hb
      try dsimp only
      rw [if_pos (by rfl)]
      obtain ⟨g, s, o1, l1, c1, o2, l2, c2, h1, h2, hr, hn⟩ := HJ.out.storeStep ⟨4, 6, 1⟩ (by rw [HS.out]; simp) (Xx) (by rw [HS.out]; rfl) 6 rfl HB.out (HW.out 4 (by decide)) (HW.out 1 (by decide)) (by rw [HS.out]; rfl) (by rw [HS.out]; rfl) (by rw [HS.out]; rfl) (by rw [HS.out]; simp)
      have HN := Lib.hid hn
      obtain ⟨d0, d1, d2, f0, f1, f2⟩ := hr.cells
      clear hn hr
      simp only at h1 h2
      simp only [h1, h2]
      go_simp
      exact hK.out _ undef _ (by (try dsimp only) <;> simp only [Act.put, h1, h2]) (HN.out undef)
    refine StepsJ.cons ?_ ?_
    · intro b f w1 hb hw hJ K hK
      have HB := Lib.hid hb
      have HJ := Lib.hid hJ
      have HW := Lib.hid hw
      clear hJ hw hb
      try dsimp only
      rw [if_pos (by rfl)]
      obtain ⟨g, s, o1, l1, c1, o2, l2, c2, h1, h2, hr, hn⟩ := HJ.out.storeStep ⟨5, 7, 3⟩ (by rw [HS.out]; simp) (Xy) (by rw [HS.out]; rfl) 7 rfl HB.out (HW.out 5 (by decide)) (HW.out 3 (by decide)) (by rw [HS.out]; rfl) (by rw [HS.out]; rfl) (by rw [HS.out]; rfl) (by rw [HS.out]; simp)
      have HN := Lib.hid hn
      obtain ⟨d0, d1, d2, f0, f1, f2⟩ := hr.cells
      clear hn hr
      simp only at h1 h2
      simp only [h1, h2]
      go_simp
      exact hK.out _ undef _ (by (try dsimp only) <;> simp only [Act.put, h1, h2]) (HN.out undef)
    exact StepsJ.nil
  case hend =>
    intro b f w5 hb hJ
    try dsimp only
    obtain ⟨gx, xs, xq1, xr1, xs1, xq2, xr2, xs2, ex, hrx, hx⟩ := hJ.all ⟨4, 6, 1⟩ (by rw [HS.out]; simp) (Xx) (by rw [HS.out]; rfl) (hb 4 (by decide)) (hb 1 (by decide)) (hb 6 (by decide))
    obtain ⟨gy, ys, yq1, yr1, ys1, yq2, yr2, ys2, ey, hry, hy⟩ := hJ.all ⟨5, 7, 3⟩ (by rw [HS.out]; simp) (Xy) (by rw [HS.out]; rfl) (hb 5 (by decide)) (hb 3 (by decide)) (hb 7 (by decide))
    simp only at ex ey
    have kk := hJ.k
    clear hJ hb
    have T_5 := Lib.hid (T_4.out.kp kk)
    have Z_5 := Lib.hid (Z_4.out.kp kk)
    clear kk T_4 Z_4
    have Vx_5 := Lib.hid hx
    have Bx_5 := Lib.hid hrx
    clear hx hrx
    have Vy_5 := Lib.hid hy
    have By_5 := Lib.hid hry
    clear hy hry
    simp only [ex, ey]
    clear ex ey
    generalize f 0 = ya0
    generalize f 1 = ya1
    generalize f 2 = ya2
    generalize f 3 = ya3
    clear HS S f b
    obtain ⟨xz0, xz1, xz2⟩ := T_5.out.ra.cells
    obtain ⟨yz0, yz1, yz2⟩ := T_5.out.rb.cells
    obtain ⟨xg0, xg1, xg2, _⟩ := Bx_5.out.cells
    obtain ⟨yg0, yg1, yg2, _⟩ := By_5.out.cells
    go_upto_region 4 with fail
    have T_6 := Lib.hid (T_5.out.kp (Below.refl _ _).drew)
    have Z_6 := Lib.hid (Z_5.out.kp (Below.refl _ _).drew)
    have Vx_6 := Lib.hid (Vx_5.out.kp (Below.refl _ _).drew)
    have Bx_6 := Lib.hid (Bx_5.out.kp (Below.refl _ _).drew)
    have Vy_6 := Lib.hid (Vy_5.out.kp (Below.refl _ _).drew)
    have By_6 := Lib.hid (By_5.out.kp (Below.refl _ _).drew)
    clear T_5 Z_5 Vx_5 Bx_5 Vy_5 By_5
    obtain ⟨S, hS⟩ : ∃ S : Plan, S = ⟨[(0, .agg #[.bool xs, .slice xq1 xr1 xs1, .slice xq2 xr2 xs2]), (1, .agg #[.bool ys, .slice yq1 yr1 ys1, .slice yq2 yr2 ys2]), (2, .bool bs), (3, .agg #[.bool xs, .slice xq1 xr1 xs1, .slice xq2 xr2 xs2]), (4, .agg #[.bool ys, .slice yq1 yr1 ys1, .slice yq2 yr2 ys2]), (5, .bool bs), (6, .bool true), (7, .bool true), (8, .agg #[.bool xs, .slice xq1 xr1 xs1, .slice xq2 xr2 xs2]), (9, .agg #[.bool xs, .slice xq1 xr1 xs1, .slice xq2 xr2 xs2]), (10, .bool true), (11, .bool true), (12, .bool true), (13, .agg #[.bool xs, .slice xq1 xr1 xs1, .slice xq2 xr2 xs2]), (14, .agg #[.bool ys, .slice yq1 yr1 ys1, .slice yq2 yr2 ys2]), (15, .int .i64 cv), (16, .agg #[.bool xs, .slice xq1 xr1 xs1, .slice xq2 xr2 xs2]), (17, .agg #[.bool ys, .slice yq1 yr1 ys1, .slice yq2 yr2 ys2]), (18, .int .i64 cv), (19, .bool true), (20, .bool true), (21, .bool true), (22, .agg #[.bool xs, .slice xq1 xr1 xs1, .slice xq2 xr2 xs2]), (23, .int .i64 sv), (24, .agg #[.bool xs, .slice xq1 xr1 xs1, .slice xq2 xr2 xs2]), (25, .int .i64 sv), (26, .bool true), (27, .bool true), (28, .bool true), (29, .agg #[.bool xs, .slice xq1 xr1 xs1, .slice xq2 xr2 xs2]), (31, .agg #[.bool xs, .slice xq1 xr1 xs1, .slice xq2 xr2 xs2]), (33, .bool true), (34, .bool true), (35, .bool true), (36, .agg #[.bool xs, .slice xq1 xr1 xs1, .slice xq2 xr2 xs2]), (38, .agg #[.bool xs, .slice xq1 xr1 xs1, .slice xq2 xr2 xs2]), (40, .bool true), (41, .bool true), (42, .bool true), (43, .agg #[.bool xs, .slice xq1 xr1 xs1, .slice xq2 xr2 xs2]), (44, .agg #[.bool ys, .slice yq1 yr1 ys1, .slice yq2 yr2 ys2]), (46, .agg #[.bool xs, .slice xq1 xr1 xs1, .slice xq2 xr2 xs2]), (47, .agg #[.bool ys, .slice yq1 yr1 ys1, .slice yq2 yr2 ys2]), (49, .bool true), (50, .bool true), (51, .bool true), (52, .agg #[.bool xs, .slice xq1 xr1 xs1, .slice xq2 xr2 xs2]), (53, .agg #[.bool ys, .slice yq1 yr1 ys1, .slice yq2 yr2 ys2]), (55, .agg #[.bool xs, .slice xq1 xr1 xs1, .slice xq2 xr2 xs2]), (56, .agg #[.bool ys, .slice yq1 yr1 ys1, .slice yq2 yr2 ys2]), (58, .bool true), (59, .bool true), (60, .bool true), (61, .agg #[.bool xs, .slice xq1 xr1 xs1, .slice xq2 xr2 xs2]), (62, .agg #[.bool ys, .slice yq1 yr1 ys1, .slice yq2 yr2 ys2]), (64, .agg #[.bool xs, .slice xq1 xr1 xs1, .slice xq2 xr2 xs2]), (65, .agg #[.bool ys, .slice yq1 yr1 ys1, .slice yq2 yr2 ys2]), (67, .bool true), (68, .bool true), (69, .bool true), (70, .bool true), (71, .bool true), (72, .bool true)], [(30, (-Xx)), (32, (-Xx)), (37, (ratOf false Xx.num.natAbs Xx.den)), (39, (ratOf false Xx.num.natAbs Xx.den)), (45, (if cmpR Xx Xy ≤ 0 then Xx else Xy)), (48, (if cmpR Xy Xx < 0 then Xy else Xx)), (54, (if 0 ≤ cmpR Xx Xy then Xx else Xy)), (57, (if 0 < cmpR Xy Xx then Xy else Xx)), (63, ((Xx + Xy) * ratOf false 1 2)), (66, ((Xx + Xy) * ratOf false 1 2))], [], []⟩ := ⟨_, rfl⟩
    have HS := Lib.hid hS
    clear hS
    refine' wp_region_inv (F := _) (by kernel_rfl) (by kernel_rfl) (by kernel_rfl) (PJ S _) (PJ.begin _ _ _) ?hF ?hsteps ?hend
    case hF => intro f; (try simp only [List.append]); simp only [putAll, Act.put, List.setIfInBounds_toArray, List.set_cons_zero, List.set_cons_succ, Nat.zero_add, Nat.reduceAdd]; exact rfl
    case hsteps =>
      try simp only [List.append]
      refine StepsJ.cons ?_ ?_
      · intro b f w1 hb hw hJ K hK
        have HB := Lib.hid hb
        have HJ := Lib.hid hJ
        have HW := Lib.hid hw
        clear hJ hw hb
        try dsimp only
        rw [if_pos (by rfl)]
        obtain ⟨xg0, xg1, xg2, _⟩ := (Bx_6.out.kp HJ.out.k).cells
        go_simp
        exact hK.out _ (.agg #[.bool xs, .slice xq1 xr1 xs1, .slice xq2 xr2 xs2]) _ (by (try dsimp only) <;> simp only [Act.put, List.setIfInBounds_toArray, List.set_cons_zero, List.set_cons_succ]) (HJ.out.pureStep 0 _ HB.out (by rw [HS.out]; rfl) (by rw [HS.out]; rfl) (by rw [HS.out]; rfl) (by rw [HS.out]; rfl))
      refine StepsJ.cons ?_ ?_
      · intro b f w1 hb hw hJ K hK
        have HB := Lib.hid hb
        have HJ := Lib.hid hJ
        have HW := Lib.hid hw
        clear hJ hw hb
        try dsimp only
        rw [if_pos (by rfl)]
        obtain ⟨yg0, yg1, yg2, _⟩ := (By_6.out.kp HJ.out.k).cells
        go_simp
        exact hK.out _ (.agg #[.bool ys, .slice yq1 yr1 ys1, .slice yq2 yr2 ys2]) _ (by (try dsimp only) <;> simp only [Act.put, List.setIfInBounds_toArray, List.set_cons_zero, List.set_cons_succ]) (HJ.out.pureStep 1 _ HB.out (by rw [HS.out]; rfl) (by rw [HS.out]; rfl) (by rw [HS.out]; rfl) (by rw [HS.out]; rfl))
      refine StepsJ.cons ?_ ?_
      · intro b f w1 hb hw hJ K hK
        have HB := Lib.hid hb
        have HJ := Lib.hid hJ
        have HW := Lib.hid hw
        clear hJ hw hb
        try dsimp only
        have e0 : f 0 = .agg #[.bool xs, .slice xq1 xr1 xs1, .slice xq2 xr2 xs2] := HJ.out.pure 0 _ (by rw [HS.out]; rfl) (HW.out 0 (by decide))
        have e1 : f 1 = .agg #[.bool ys, .slice yq1 yr1 ys1, .slice yq2 yr2 ys2] := HJ.out.pure 1 _ (by rw [HS.out]; rfl) (HW.out 1 (by decide))
        simp only [e0, e1]
        rw [if_pos (by rfl)]
        go_simp
        go_at_call 33
        (with_reducible refine (C1.out _ _ _ (Vx_6.out.kp HJ.out.k) (Vy_6.out.kp HJ.out.k)).mono ?_)
        rintro e w2 ⟨rfl, kk⟩
        exact hK.out _ (.bool bs) _ (by (try dsimp only) <;> simp only [Act.put, List.setIfInBounds_toArray, List.set_cons_zero, List.set_cons_succ, e0, e1]) ((HJ.out.later kk).pureStep 2 _ HB.out (by rw [HS.out]; rfl) (by rw [HS.out]; rfl) (by rw [HS.out]; rfl) (by rw [HS.out]; rfl))
      refine StepsJ.cons ?_ ?_
      · intro b f w1 hb hw hJ K hK
        have HB := Lib.hid hb
        have HJ := Lib.hid hJ
        have HW := Lib.hid hw
        clear hJ hw hb
        try dsimp only
        rw [if_pos (by rfl)]
        obtain ⟨xg0, xg1, xg2, _⟩ := (Bx_6.out.kp HJ.out.k).cells
        go_simp
        exact hK.out _ (.agg #[.bool xs, .slice xq1 xr1 xs1, .slice xq2 xr2 xs2]) _ (by (try dsimp only) <;> simp only [Act.put, List.setIfInBounds_toArray, List.set_cons_zero, List.set_cons_succ]) (HJ.out.pureStep 3 _ HB.out (by rw [HS.out]; rfl) (by rw [HS.out]; rfl) (by rw [HS.out]; rfl) (by rw [HS.out]; rfl))
      refine StepsJ.cons ?_ ?_
      · intro b f w1 hb hw hJ K hK
        have HB := Lib.hid hb
        have HJ := Lib.hid hJ
        have HW := Lib.hid hw
        clear hJ hw hb
        try dsimp only
        rw [if_pos (by rfl)]
        obtain ⟨yg0, yg1, yg2, _⟩ := (By_6.out.kp HJ.out.k).cells
        go_simp
        exact hK.out _ (.agg #[.bool ys, .slice yq1 yr1 ys1, .slice yq2 yr2 ys2]) _ (by (try dsimp only) <;> simp only [Act.put, List.setIfInBounds_toArray, List.set_cons_zero, List.set_cons_succ]) (HJ.out.pureStep 4 _ HB.out (by rw [HS.out]; rfl) (by rw [HS.out]; rfl) (by rw [HS.out]; rfl) (by rw [HS.out]; rfl))
      refine StepsJ.cons ?_ ?_
      · intro b f w1 hb hw hJ K hK
        have HB := Lib.hid hb
        have HJ := Lib.hid hJ
        have HW := Lib.hid hw
        clear hJ hw hb
        try dsimp only
        have e3 : f 3 = .agg #[.bool xs, .slice xq1 xr1 xs1, .slice xq2 xr2 xs2] := HJ.out.pure 3 _ (by rw [HS.out]; rfl) (HW.out 3 (by decide))
        have e4 : f 4 = .agg #[.bool ys, .slice yq1 yr1 ys1, .slice yq2 yr2 ys2] := HJ.out.pure 4 _ (by rw [HS.out]; rfl) (HW.out 4 (by decide))
        simp only [e3, e4]
        rw [if_pos (by rfl)]
        go_simp
        go_at_call 19
        (with_reducible refine (C2.out _ _ _ (Vx_6.out.kp HJ.out.k) (Vy_6.out.kp HJ.out.k)).mono ?_)
        rintro e w2 ⟨rfl, kk⟩
        exact hK.out _ (.bool bs) _ (by (try dsimp only) <;> simp only [Act.put, List.setIfInBounds_toArray, List.set_cons_zero, List.set_cons_succ, e3, e4]) ((HJ.out.later kk).pureStep 5 _ HB.out (by rw [HS.out]; rfl) (by rw [HS.out]; rfl) (by rw [HS.out]; rfl) (by rw [HS.out]; rfl))
      refine StepsJ.cons ?_ ?_
      · intro b f w1 hb hw hJ K hK
        have HB := Lib.hid hb
        have HJ := Lib.hid hJ
        have HW := Lib.hid hw
        clear hJ hw hb
        try dsimp only
        have e2 : f 2 = .bool bs := HJ.out.pure 2 _ (by rw [HS.out]; rfl) (HW.out 2 (by decide))
        have e5 : f 5 = .bool bs := HJ.out.pure 5 _ (by rw [HS.out]; rfl) (HW.out 5 (by decide))
        simp only [e2, e5]
        rw [if_pos (by rfl)]
        go_simp
        exact hK.out _ (.bool true) _ (by (try dsimp only) <;> simp only [Act.put, List.setIfInBounds_toArray, List.set_cons_zero, List.set_cons_succ, e2, e5]) (HJ.out.pureStep 6 _ HB.out (by rw [HS.out]; rfl) (by rw [HS.out]; rfl) (by rw [HS.out]; rfl) (by rw [HS.out]; rfl))
      refine StepsJ.cons ?_ ?_
      · intro b f w1 hb hw hJ K hK
        have HB := Lib.hid hb
        have HJ := Lib.hid hJ
        have HW := Lib.hid hw
        clear hJ hw hb
        try dsimp only
        have e6 : f 6 = .bool true := HJ.out.pure 6 _ (by rw [HS.out]; rfl) (HW.out 6 (by decide))
        simp only [e6]
        rw [if_pos (by rfl)]
        go_simp
        exact hK.out _ (.bool true) _ (by (try dsimp only) <;> simp only [Act.put, List.setIfInBounds_toArray, List.set_cons_zero, List.set_cons_succ, e6]) (HJ.out.pureStep 7 _ HB.out (by rw [HS.out]; rfl) (by rw [HS.out]; rfl) (by rw [HS.out]; rfl) (by rw [HS.out]; rfl))
      refine StepsJ.cons ?_ ?_
      · intro b f w1 hb hw hJ K hK
        have HB := Lib.hid hb
        have HJ := Lib.hid hJ
        have HW := Lib.hid hw
        clear hJ hw hb
        try dsimp only
        have e7 : f 7 = .bool true := HJ.out.pure 7 _ (by rw [HS.out]; rfl) (HW.out 7 (by decide))
        simp only [e7]
        rw [if_pos (by rfl)]
        obtain ⟨xg0, xg1, xg2, _⟩ := (Bx_6.out.kp HJ.out.k).cells
        go_simp
        exact hK.out _ (.agg #[.bool xs, .slice xq1 xr1 xs1, .slice xq2 xr2 xs2]) _ (by (try dsimp only) <;> simp only [Act.put, List.setIfInBounds_toArray, List.set_cons_zero, List.set_cons_succ, e7]) (HJ.out.pureStep 8 _ HB.out (by rw [HS.out]; rfl) (by rw [HS.out]; rfl) (by rw [HS.out]; rfl) (by rw [HS.out]; rfl))
      refine StepsJ.cons ?_ ?_
      · intro b f w1 hb hw hJ K hK
        have HB := Lib.hid hb
        have HJ := Lib.hid hJ
        have HW := Lib.hid hw
        clear hJ hw hb
        try dsimp only
        have e7 : f 7 = .bool true := HJ.out.pure 7 _ (by rw [HS.out]; rfl) (HW.out 7 (by decide))
        simp only [e7]
        rw [if_pos (by rfl)]
        obtain ⟨xg0, xg1, xg2, _⟩ := (Bx_6.out.kp HJ.out.k).cells
        go_simp
        exact hK.out _ (.agg #[.bool xs, .slice xq1 xr1 xs1, .slice xq2 xr2 xs2]) _ (by (try dsimp only) <;> simp only [Act.put, List.setIfInBounds_toArray, List.set_cons_zero, List.set_cons_succ, e7]) (HJ.out.pureStep 9 _ HB.out (by rw [HS.out]; rfl) (by rw [HS.out]; rfl) (by rw [HS.out]; rfl) (by rw [HS.out]; rfl))
      refine StepsJ.cons ?_ ?_
      · intro b f w1 hb hw hJ K hK
        have HB := Lib.hid hb
        have HJ := Lib.hid hJ
        have HW := Lib.hid hw
        clear hJ hw hb
        try dsimp only
        have e7 : f 7 = .bool true := HJ.out.pure 7 _ (by rw [HS.out]; rfl) (HW.out 7 (by decide))
        have e8 : f 8 = .agg #[.bool xs, .slice xq1 xr1 xs1, .slice xq2 xr2 xs2] := HJ.out.pure 8 _ (by rw [HS.out]; rfl) (HW.out 8 (by decide))
        have e9 : f 9 = .agg #[.bool xs, .slice xq1 xr1 xs1, .slice xq2 xr2 xs2] := HJ.out.pure 9 _ (by rw [HS.out]; rfl) (HW.out 9 (by decide))
        simp only [e7, e8, e9]
        rw [if_pos (by rfl)]
        go_simp
        go_at_call 33
        (with_reducible refine (C3.out _ _ _ (Vx_6.out.kp HJ.out.k) (Vx_6.out.kp HJ.out.k)).mono ?_)
        rintro e w2 ⟨rfl, kk⟩
        exact hK.out _ (.bool true) _ (by (try dsimp only) <;> simp only [Act.put, List.setIfInBounds_toArray, List.set_cons_zero, List.set_cons_succ, e7, e8, e9]) ((HJ.out.later kk).pureStep 10 _ HB.out (by rw [HS.out]; rfl) (by rw [HS.out]; rfl) (by rw [HS.out]; rfl) (by rw [HS.out]; rfl))
      refine StepsJ.cons ?_ ?_
      · intro b f w1 hb hw hJ K hK
        have HB := Lib.hid hb
        have HJ := Lib.hid hJ
        have HW := Lib.hid hw
        clear hJ hw hb
        try dsimp only
        have e7 : f 7 = .bool true := HJ.out.pure 7 _ (by rw [HS.out]; rfl) (HW.out 7 (by decide))
        have e10 : f 10 = .bool true := HJ.out.pure 10 _ (by rw [HS.out]; rfl) (HW.out 10 (by decide))
        simp only [e7, e10]
        rw [if_pos (by rfl)]
        go_simp
        exact hK.out _ (.bool true) _ (by (try dsimp only) <;> simp only [Act.put, List.setIfInBounds_toArray, List.set_cons_zero, List.set_cons_succ, e7, e10]) (HJ.out.pureStep 11 _ HB.out (by rw [HS.out]; rfl) (by rw [HS.out]; rfl) (by rw [HS.out]; rfl) (by rw [HS.out]; rfl))
      refine StepsJ.cons ?_ ?_
      · intro b f w1 hb hw hJ K hK
        have HB := Lib.hid hb
        have HJ := Lib.hid hJ
        have HW := Lib.hid hw
        clear hJ hw hb
        try dsimp only
        have e11 : f 11 = .bool true := HJ.out.pure 11 _ (by rw [HS.out]; rfl) (HW.out 11 (by decide))
        simp only [e11]
        rw [if_pos (by rfl)]
        go_simp
        exact hK.out _ (.bool true) _ (by (try dsimp only) <;> simp only [Act.put, List.setIfInBounds_toArray, List.set_cons_zero, List.set_cons_succ, e11]) (HJ.out.pureStep 12 _ HB.out (by rw [HS.out]; rfl) (by rw [HS.out]; rfl) (by rw [HS.out]; rfl) (by rw [HS.out]; rfl))
      refine StepsJ.cons ?_ ?_
      · intro b f w1 hb hw hJ K hK
        have HB := Lib.hid hb
        have HJ := Lib.hid hJ
        have HW := Lib.hid hw
        clear hJ hw hb
        try dsimp only
        have e12 : f 12 = .bool true := HJ.out.pure 12 _ (by rw [HS.out]; rfl) (HW.out 12 (by decide))
        simp only [e12]
        rw [if_pos (by rfl)]
        obtain ⟨xg0, xg1, xg2, _⟩ := (Bx_6.out.kp HJ.out.k).cells
        go_simp
        exact hK.out _ (.agg #[.bool xs, .slice xq1 xr1 xs1, .slice xq2 xr2 xs2]) _ (by (try dsimp only) <;> simp only [Act.put, List.setIfInBounds_toArray, List.set_cons_zero, List.set_cons_succ, e12]) (HJ.out.pureStep 13 _ HB.out (by rw [HS.out]; rfl) (by rw [HS.out]; rfl) (by rw [HS.out]; rfl) (by rw [HS.out]; rfl))
      refine StepsJ.cons ?_ ?_
      · intro b f w1 hb hw hJ K hK
        have HB := Lib.hid hb
        have HJ := Lib.hid hJ
        have HW := Lib.hid hw
        clear hJ hw hb
        try dsimp only
        have e12 : f 12 = .bool true := HJ.out.pure 12 _ (by rw [HS.out]; rfl) (HW.out 12 (by decide))
        simp only [e12]
        rw [if_pos (by rfl)]
        obtain ⟨yg0, yg1, yg2, _⟩ := (By_6.out.kp HJ.out.k).cells
        go_simp
        exact hK.out _ (.agg #[.bool ys, .slice yq1 yr1 ys1, .slice yq2 yr2 ys2]) _ (by (try dsimp only) <;> simp only [Act.put, List.setIfInBounds_toArray, List.set_cons_zero, List.set_cons_succ, e12]) (HJ.out.pureStep 14 _ HB.out (by rw [HS.out]; rfl) (by rw [HS.out]; rfl) (by rw [HS.out]; rfl) (by rw [HS.out]; rfl))
      refine StepsJ.cons ?_ ?_
      · intro b f w1 hb hw hJ K hK
        have HB := Lib.hid hb
        have HJ := Lib.hid hJ
        have HW := Lib.hid hw
        clear hJ hw hb
        try dsimp only
        have e12 : f 12 = .bool true := HJ.out.pure 12 _ (by rw [HS.out]; rfl) (HW.out 12 (by decide))
        have e13 : f 13 = .agg #[.bool xs, .slice xq1 xr1 xs1, .slice xq2 xr2 xs2] := HJ.out.pure 13 _ (by rw [HS.out]; rfl) (HW.out 13 (by decide))
        have e14 : f 14 = .agg #[.bool ys, .slice yq1 yr1 ys1, .slice yq2 yr2 ys2] := HJ.out.pure 14 _ (by rw [HS.out]; rfl) (HW.out 14 (by decide))
        simp only [e12, e13, e14]
        rw [if_pos (by rfl)]
        go_simp
        go_at_call 34
        (with_reducible refine (C4.out _ _ _ (Vx_6.out.kp HJ.out.k) (Vy_6.out.kp HJ.out.k) (Z_6.out.kp HJ.out.k)).mono ?_)
        rintro e w2 ⟨rfl, kk⟩
        exact hK.out _ (.int .i64 cv) _ (by (try dsimp only) <;> simp only [Act.put, List.setIfInBounds_toArray, List.set_cons_zero, List.set_cons_succ, e12, e13, e14]) ((HJ.out.later kk).pureStep 15 _ HB.out (by rw [HS.out]; rfl) (by rw [HS.out]; rfl) (by rw [HS.out]; rfl) (by rw [HS.out]; rfl))
      refine StepsJ.cons ?_ ?_
      · intro b f w1 hb hw hJ K hK
        have HB := Lib.hid hb
        have HJ := Lib.hid hJ
        have HW := Lib.hid hw
        clear hJ hw hb
        try dsimp only
        have e12 : f 12 = .bool true := HJ.out.pure 12 _ (by rw [HS.out]; rfl) (HW.out 12 (by decide))
        simp only [e12]
        rw [if_pos (by rfl)]
        obtain ⟨xg0, xg1, xg2, _⟩ := (Bx_6.out.kp HJ.out.k).cells
        go_simp
        exact hK.out _ (.agg #[.bool xs, .slice xq1 xr1 xs1, .slice xq2 xr2 xs2]) _ (by (try dsimp only) <;> simp only [Act.put, List.setIfInBounds_toArray, List.set_cons_zero, List.set_cons_succ, e12]) (HJ.out.pureStep 16 _ HB.out (by rw [HS.out]; rfl) (by rw [HS.out]; rfl) (by rw [HS.out]; rfl) (by rw [HS.out]; rfl))
      refine StepsJ.cons ?_ ?_
      · intro b f w1 hb hw hJ K hK
        have HB := Lib.hid hb
        have HJ := Lib.hid hJ
        have HW := Lib.hid hw
        clear hJ hw hb
        try dsimp only
        have e12 : f 12 = .bool true := HJ.out.pure 12 _ (by rw [HS.out]; rfl) (HW.out 12 (by decide))
        simp only [e12]
        rw [if_pos (by rfl)]
        obtain ⟨yg0, yg1, yg2, _⟩ := (By_6.out.kp HJ.out.k).cells
        go_simp
        exact hK.out _ (.agg #[.bool ys, .slice yq1 yr1 ys1, .slice yq2 yr2 ys2]) _ (by (try dsimp only) <;> simp only [Act.put, List.setIfInBounds_toArray, List.set_cons_zero, List.set_cons_succ, e12]) (HJ.out.pureStep 17 _ HB.out (by rw [HS.out]; rfl) (by rw [HS.out]; rfl) (by rw [HS.out]; rfl) (by rw [HS.out]; rfl))
      refine StepsJ.cons ?_ ?_
      · intro b f w1 hb hw hJ K hK
        have HB := Lib.hid hb
        have HJ := Lib.hid hJ
        have HW := Lib.hid hw
        clear hJ hw hb
        try dsimp only
        have e12 : f 12 = .bool true := HJ.out.pure 12 _ (by rw [HS.out]; rfl) (HW.out 12 (by decide))
        have e16 : f 16 = .agg #[.bool xs, .slice xq1 xr1 xs1, .slice xq2 xr2 xs2] := HJ.out.pure 16 _ (by rw [HS.out]; rfl) (HW.out 16 (by decide))
        have e17 : f 17 = .agg #[.bool ys, .slice yq1 yr1 ys1, .slice yq2 yr2 ys2] := HJ.out.pure 17 _ (by rw [HS.out]; rfl) (HW.out 17 (by decide))
        simp only [e12, e16, e17]
        rw [if_pos (by rfl)]
        go_simp
        go_at_call 35
        (with_reducible refine (C5.out _ _ _ (Vx_6.out.kp HJ.out.k) (Vy_6.out.kp HJ.out.k)).mono ?_)
        rintro e w2 ⟨rfl, kk⟩
        exact hK.out _ (.int .i64 cv) _ (by (try dsimp only) <;> simp only [Act.put, List.setIfInBounds_toArray, List.set_cons_zero, List.set_cons_succ, e12, e16, e17]) ((HJ.out.later kk).pureStep 18 _ HB.out (by rw [HS.out]; rfl) (by rw [HS.out]; rfl) (by rw [HS.out]; rfl) (by rw [HS.out]; rfl))
      refine StepsJ.cons ?_ ?_
      · intro b f w1 hb hw hJ K hK
        have HB := Lib.hid hb
        have HJ := Lib.hid hJ
        have HW := Lib.hid hw
        clear hJ hw hb
        try dsimp only
        have e12 : f 12 = .bool true := HJ.out.pure 12 _ (by rw [HS.out]; rfl) (HW.out 12 (by decide))
        have e15 : f 15 = .int .i64 cv := HJ.out.pure 15 _ (by rw [HS.out]; rfl) (HW.out 15 (by decide))
        have e18 : f 18 = .int .i64 cv := HJ.out.pure 18 _ (by rw [HS.out]; rfl) (HW.out 18 (by decide))
        simp only [e12, e15, e18]
        rw [if_pos (by rfl)]
        go_simp
        exact hK.out _ (.bool true) _ (by (try dsimp only) <;> simp only [Act.put, List.setIfInBounds_toArray, List.set_cons_zero, List.set_cons_succ, e12, e15, e18]) (HJ.out.pureStep 19 _ HB.out (by rw [HS.out]; rfl) (by rw [HS.out]; rfl) (by rw [HS.out]; rfl) (by rw [HS.out]; rfl))
      refine StepsJ.cons ?_ ?_
      · intro b f w1 hb hw hJ K hK
        have HB := Lib.hid hb
        have HJ := Lib.hid hJ
        have HW := Lib.hid hw
        clear hJ hw hb
        try dsimp only
        have e12 : f 12 = .bool true := HJ.out.pure 12 _ (by rw [HS.out]; rfl) (HW.out 12 (by decide))
        have e19 : f 19 = .bool true := HJ.out.pure 19 _ (by rw [HS.out]; rfl) (HW.out 19 (by decide))
        simp only [e12, e19]
        rw [if_pos (by rfl)]
        go_simp
        exact hK.out _ (.bool true) _ (by (try dsimp only) <;> simp only [Act.put, List.setIfInBounds_toArray, List.set_cons_zero, List.set_cons_succ, e12, e19]) (HJ.out.pureStep 20 _ HB.out (by rw [HS.out]; rfl) (by rw [HS.out]; rfl) (by rw [HS.out]; rfl) (by rw [HS.out]; rfl))
      refine StepsJ.cons ?_ ?_
      · intro b f w1 hb hw hJ K hK
        have HB := Lib.hid hb
        have HJ := Lib.hid hJ
        have HW := Lib.hid hw
        clear hJ hw hb
        try dsimp only
        have e20 : f 20 = .bool true := HJ.out.pure 20 _ (by rw [HS.out]; rfl) (HW.out 20 (by decide))
        simp only [e20]
        rw [if_pos (by rfl)]
        go_simp
        exact hK.out _ (.bool true) _ (by (try dsimp only) <;> simp only [Act.put, List.setIfInBounds_toArray, List.set_cons_zero, List.set_cons_succ, e20]) (HJ.out.pureStep 21 _ HB.out (by rw [HS.out]; rfl) (by rw [HS.out]; rfl) (by rw [HS.out]; rfl) (by rw [HS.out]; rfl))
      refine StepsJ.cons ?_ ?_
      · intro b f w1 hb hw hJ K hK
        have HB := Lib.hid hb
        have HJ := Lib.hid hJ
        have HW := Lib.hid hw
        clear hJ hw hb
        try dsimp only
        have e21 : f 21 = .bool true := HJ.out.pure 21 _ (by rw [HS.out]; rfl) (HW.out 21 (by decide))
        simp only [e21]
        rw [if_pos (by rfl)]
        obtain ⟨xg0, xg1, xg2, _⟩ := (Bx_6.out.kp HJ.out.k).cells
        go_simp
        exact hK.out _ (.agg #[.bool xs, .slice xq1 xr1 xs1, .slice xq2 xr2 xs2]) _ (by (try dsimp only) <;> simp only [Act.put, List.setIfInBounds_toArray, List.set_cons_zero, List.set_cons_succ, e21]) (HJ.out.pureStep 22 _ HB.out (by rw [HS.out]; rfl) (by rw [HS.out]; rfl) (by rw [HS.out]; rfl) (by rw [HS.out]; rfl))
      refine StepsJ.cons ?_ ?_
      · intro b f w1 hb hw hJ K hK
        have HB := Lib.hid hb
        have HJ := Lib.hid hJ
        have HW := Lib.hid hw
        clear hJ hw hb
        try dsimp only
        have e21 : f 21 = .bool true := HJ.out.pure 21 _ (by rw [HS.out]; rfl) (HW.out 21 (by decide))
        have e22 : f 22 = .agg #[.bool xs, .slice xq1 xr1 xs1, .slice xq2 xr2 xs2] := HJ.out.pure 22 _ (by rw [HS.out]; rfl) (HW.out 22 (by decide))
        simp only [e21, e22]
        rw [if_pos (by rfl)]
        go_simp
        go_at_call 36
        (with_reducible refine (C6.out _ _ (Vx_6.out.kp HJ.out.k)).mono ?_)
        rintro e w2 ⟨rfl, kk⟩
        exact hK.out _ (.int .i64 sv) _ (by (try dsimp only) <;> simp only [Act.put, List.setIfInBounds_toArray, List.set_cons_zero, List.set_cons_succ, e21, e22]) ((HJ.out.later kk).pureStep 23 _ HB.out (by rw [HS.out]; rfl) (by rw [HS.out]; rfl) (by rw [HS.out]; rfl) (by rw [HS.out]; rfl))
      refine StepsJ.cons ?_ ?_
      · intro b f w1 hb hw hJ K hK
        have HB := Lib.hid hb
        have HJ := Lib.hid hJ
        have HW := Lib.hid hw
        clear hJ hw hb
        try dsimp only
        have e21 : f 21 = .bool true := HJ.out.pure 21 _ (by rw [HS.out]; rfl) (HW.out 21 (by decide))
        simp only [e21]
        rw [if_pos (by rfl)]
        obtain ⟨xg0, xg1, xg2, _⟩ := (Bx_6.out.kp HJ.out.k).cells
        go_simp
        exact hK.out _ (.agg #[.bool xs, .slice xq1 xr1 xs1, .slice xq2 xr2 xs2]) _ (by (try dsimp only) <;> simp only [Act.put, List.setIfInBounds_toArray, List.set_cons_zero, List.set_cons_succ, e21]) (HJ.out.pureStep 24 _ HB.out (by rw [HS.out]; rfl) (by rw [HS.out]; rfl) (by rw [HS.out]; rfl) (by rw [HS.out]; rfl))
      refine StepsJ.cons ?_ ?_
      · intro b f w1 hb hw hJ K hK
        have HB := Lib.hid hb
        have HJ := Lib.hid hJ
        have HW := Lib.hid hw
        clear hJ hw hb
        try dsimp only
        have e21 : f 21 = .bool true := HJ.out.pure 21 _ (by rw [HS.out]; rfl) (HW.out 21 (by decide))
        have e24 : f 24 = .agg #[.bool xs, .slice xq1 xr1 xs1, .slice xq2 xr2 xs2] := HJ.out.pure 24 _ (by rw [HS.out]; rfl) (HW.out 24 (by decide))
        simp only [e21, e24]
        rw [if_pos (by rfl)]
        go_simp
        go_at_call 37
        (with_reducible refine (C7.out _ _ (Vx_6.out.kp HJ.out.k)).mono ?_)
        rintro e w2 ⟨rfl, kk⟩
        exact hK.out _ (.int .i64 sv) _ (by (try dsimp only) <;> simp only [Act.put, List.setIfInBounds_toArray, List.set_cons_zero, List.set_cons_succ, e21, e24]) ((HJ.out.later kk).pureStep 25 _ HB.out (by rw [HS.out]; rfl) (by rw [HS.out]; rfl) (by rw [HS.out]; rfl) (by rw [HS.out]; rfl))
      refine StepsJ.cons ?_ ?_
      · intro b f w1 hb hw hJ K hK
        have HB := Lib.hid hb
        have HJ := Lib.hid hJ
        have HW := Lib.hid hw
        clear hJ hw hb
        try dsimp only
        have e21 : f 21 = .bool true := HJ.out.pure 21 _ (by rw [HS.out]; rfl) (HW.out 21 (by decide))
        have e23 : f 23 = .int .i64 sv := HJ.out.pure 23 _ (by rw [HS.out]; rfl) (HW.out 23 (by decide))
        have e25 : f 25 = .int .i64 sv := HJ.out.pure 25 _ (by rw [HS.out]; rfl) (HW.out 25 (by decide))
        simp only [e21, e23, e25]
        rw [if_pos (by rfl)]
        go_simp
        exact hK.out _ (.bool true) _ (by (try dsimp only) <;> simp only [Act.put, List.setIfInBounds_toArray, List.set_cons_zero, List.set_cons_succ, e21, e23, e25]) (HJ.out.pureStep 26 _ HB.out (by rw [HS.out]; rfl) (by rw [HS.out]; rfl) (by rw [HS.out]; rfl) (by rw [HS.out]; rfl))
      refine StepsJ.cons ?_ ?_
      · intro b f w1 hb hw hJ K hK
        have HB := Lib.hid hb
        have HJ := Lib.hid hJ
        have HW := Lib.hid hw
        clear hJ hw hb
        try dsimp only
        have e21 : f 21 = .bool true := HJ.out.pure 21 _ (by rw [HS.out]; rfl) (HW.out 21 (by decide))
        have e26 : f 26 = .bool true := HJ.out.pure 26 _ (by rw [HS.out]; rfl) (HW.out 26 (by decide))
        simp only [e21, e26]
        rw [if_pos (by rfl)]
        go_simp
        exact hK.out _ (.bool true) _ (by (try dsimp only) <;> simp only [Act.put, List.setIfInBounds_toArray, List.set_cons_zero, List.set_cons_succ, e21, e26]) (HJ.out.pureStep 27 _ HB.out (by rw [HS.out]; rfl) (by rw [HS.out]; rfl) (by rw [HS.out]; rfl) (by rw [HS.out]; rfl))
      refine StepsJ.cons ?_ ?_
      · intro b f w1 hb hw hJ K hK
        have HB := Lib.hid hb
        have HJ := Lib.hid hJ
        have HW := Lib.hid hw
        clear hJ hw hb
        try dsimp only
        have e27 : f 27 = .bool true := HJ.out.pure 27 _ (by rw [HS.out]; rfl) (HW.out 27 (by decide))
        simp only [e27]
        rw [if_pos (by rfl)]
        go_simp
        exact hK.out _ (.bool true) _ (by (try dsimp only) <;> simp only [Act.put, List.setIfInBounds_toArray, List.set_cons_zero, List.set_cons_succ, e27]) (HJ.out.pureStep 28 _ HB.out (by rw [HS.out]; rfl) (by rw [HS.out]; rfl) (by rw [HS.out]; rfl) (by rw [HS.out]; rfl))
      refine StepsJ.cons ?_ ?_
      · intro b f w1 hb hw hJ K hK
        have HB := Lib.hid hb
        have HJ := Lib.hid hJ
        have HW := Lib.hid hw
        clear hJ hw hb
        try dsimp only
        have e28 : f 28 = .bool true := HJ.out.pure 28 _ (by rw [HS.out]; rfl) (HW.out 28 (by decide))
        simp only [e28]
        rw [if_pos (by rfl)]
        obtain ⟨xg0, xg1, xg2, _⟩ := (Bx_6.out.kp HJ.out.k).cells
        go_simp
        exact hK.out _ (.agg #[.bool xs, .slice xq1 xr1 xs1, .slice xq2 xr2 xs2]) _ (by (try dsimp only) <;> simp only [Act.put, List.setIfInBounds_toArray, List.set_cons_zero, List.set_cons_succ, e28]) (HJ.out.pureStep 29 _ HB.out (by rw [HS.out]; rfl) (by rw [HS.out]; rfl) (by rw [HS.out]; rfl) (by rw [HS.out]; rfl))
      refine StepsJ.cons ?_ ?_
      · intro b f w1 hb hw hJ K hK
        have HB := Lib.hid hb
        have HJ := Lib.hid hJ
        have HW := Lib.hid hw
        clear hJ hw hb
        try dsimp only
        have e28 : f 28 = .bool true := HJ.out.pure 28 _ (by rw [HS.out]; rfl) (HW.out 28 (by decide))
        have e29 : f 29 = .agg #[.bool xs, .slice xq1 xr1 xs1, .slice xq2 xr2 xs2] := HJ.out.pure 29 _ (by rw [HS.out]; rfl) (HW.out 29 (by decide))
        simp only [e28, e29]
        rw [if_pos (by rfl)]
        go_simp
        go_at_call 38
        (with_reducible refine (C8.out _ _ (Vx_6.out.kp HJ.out.k)).mono ?_)
        rintro e w2 ⟨vr, rfl, hr, kk⟩
        exact hK.out _ vr _ (by (try dsimp only) <;> simp only [Act.put, List.setIfInBounds_toArray, List.set_cons_zero, List.set_cons_succ, e28, e29]) (HJ.out.callStep 30 vr _ HB.out kk hr (by rw [HS.out]; rfl) (by rw [HS.out]; rfl) (by rw [HS.out]; rfl) (by rw [HS.out]; rfl))
      refine StepsJ.cons ?_ ?_
      · intro b f w1 hb hw hJ K hK
        have HB := Lib.hid hb
        have HJ := Lib.hid hJ
        have HW := Lib.hid hw
        clear hJ hw hb
        try dsimp only
        have e28 : f 28 = .bool true := HJ.out.pure 28 _ (by rw [HS.out]; rfl) (HW.out 28 (by decide))
        simp only [e28]
        rw [if_pos (by rfl)]
        obtain ⟨xg0, xg1, xg2, _⟩ := (Bx_6.out.kp HJ.out.k).cells
        go_simp
        exact hK.out _ (.agg #[.bool xs, .slice xq1 xr1 xs1, .slice xq2 xr2 xs2]) _ (by (try dsimp only) <;> simp only [Act.put, List.setIfInBounds_toArray, List.set_cons_zero, List.set_cons_succ, e28]) (HJ.out.pureStep 31 _ HB.out (by rw [HS.out]; rfl) (by rw [HS.out]; rfl) (by rw [HS.out]; rfl) (by rw [HS.out]; rfl))
      refine StepsJ.cons ?_ ?_
      · intro b f w1 hb hw hJ K hK
        have HB := Lib.hid hb
        have HJ := Lib.hid hJ
        have HW := Lib.hid hw
        clear hJ hw hb
        try dsimp only
        have e28 : f 28 = .bool true := HJ.out.pure 28 _ (by rw [HS.out]; rfl) (HW.out 28 (by decide))
        have e31 : f 31 = .agg #[.bool xs, .slice xq1 xr1 xs1, .slice xq2 xr2 xs2] := HJ.out.pure 31 _ (by rw [HS.out]; rfl) (HW.out 31 (by decide))
        simp only [e28, e31]
        rw [if_pos (by rfl)]
        go_simp
        go_at_call 39
        (with_reducible refine (C9.out _ _ (Vx_6.out.kp HJ.out.k)).mono ?_)
        rintro e w2 ⟨vr, rfl, hr, kk⟩
        exact hK.out _ vr _ (by (try dsimp only) <;> simp only [Act.put, List.setIfInBounds_toArray, List.set_cons_zero, List.set_cons_succ, e28, e31]) (HJ.out.callStep 32 vr _ HB.out kk hr (by rw [HS.out]; rfl) (by rw [HS.out]; rfl) (by rw [HS.out]; rfl) (by rw [HS.out]; rfl))
      refine StepsJ.cons ?_ ?_
      · intro b f w1 hb hw hJ K hK
        have HB := Lib.hid hb
        have HJ := Lib.hid hJ
        have HW := Lib.hid hw
        clear hJ hw hb
        try dsimp only
        have e28 : f 28 = .bool true := HJ.out.pure 28 _ (by rw [HS.out]; rfl) (HW.out 28 (by decide))
        simp only [e28]
        rw [if_pos (by rfl)]
        have a30 := HJ.out.call 30 _ (by rw [HS.out]; rfl) (HW.out 30 (by decide))
        have a32 := HJ.out.call 32 _ (by rw [HS.out]; rfl) (HW.out 32 (by decide))
        have Ha30 := Lib.hid a30
        clear a30
        have Ha32 := Lib.hid a32
        clear a32
        go_simp
        go_at_call 19
        (with_reducible refine (C10.out _ _ _ Ha30.out Ha32.out).mono ?_)
        rintro e w2 ⟨rfl, kk⟩
        exact hK.out _ (.bool true) _ (by (try dsimp only) <;> simp only [Act.put, List.setIfInBounds_toArray, List.set_cons_zero, List.set_cons_succ, e28]) ((HJ.out.later kk).pureStep 33 _ HB.out (by rw [HS.out]; rfl) (by rw [HS.out]; rfl) (by rw [HS.out]; rfl) (by rw [HS.out]; rfl))
      refine StepsJ.cons ?_ ?_
      · intro b f w1 hb hw hJ K hK
        have HB := Lib.hid hb
        have HJ := Lib.hid hJ
        have HW := Lib.hid hw
        clear hJ hw hb
        try dsimp only
        have e28 : f 28 = .bool true := HJ.out.pure 28 _ (by rw [HS.out]; rfl) (HW.out 28 (by decide))
        have e33 : f 33 = .bool true := HJ.out.pure 33 _ (by rw [HS.out]; rfl) (HW.out 33 (by decide))
        simp only [e28, e33]
        rw [if_pos (by rfl)]
        go_simp
        exact hK.out _ (.bool true) _ (by (try dsimp only) <;> simp only [Act.put, List.setIfInBounds_toArray, List.set_cons_zero, List.set_cons_succ, e28, e33]) (HJ.out.pureStep 34 _ HB.out (by rw [HS.out]; rfl) (by rw [HS.out]; rfl) (by rw [HS.out]; rfl) (by rw [HS.out]; rfl))
      refine StepsJ.cons ?_ ?_
      · intro b f w1 hb hw hJ K hK
        have HB := Lib.hid hb
        have HJ := Lib.hid hJ
        have HW := Lib.hid hw
        clear hJ hw hb
        try dsimp only
        have e34 : f 34 = .bool true := HJ.out.pure 34 _ (by rw [HS.out]; rfl) (HW.out 34 (by decide))
        simp only [e34]
        rw [if_pos (by rfl)]
        go_simp
        exact hK.out _ (.bool true) _ (by (try dsimp only) <;> simp only [Act.put, List.setIfInBounds_toArray, List.set_cons_zero, List.set_cons_succ, e34]) (HJ.out.pureStep 35 _ HB.out (by rw [HS.out]; rfl) (by rw [HS.out]; rfl) (by rw [HS.out]; rfl) (by rw [HS.out]; rfl))
      refine StepsJ.cons ?_ ?_
      · intro b f w1 hb hw hJ K hK
        have HB := Lib.hid hb
        have HJ := Lib.hid hJ
        have HW := Lib.hid hw
        clear hJ hw hb
        try dsimp only
        have e35 : f 35 = .bool true := HJ.out.pure 35 _ (by rw [HS.out]; rfl) (HW.out 35 (by decide))
        simp only [e35]
        rw [if_pos (by rfl)]
        obtain ⟨xg0, xg1, xg2, _⟩ := (Bx_6.out.kp HJ.out.k).cells
        go_simp
        exact hK.out _ (.agg #[.bool xs, .slice xq1 xr1 xs1, .slice xq2 xr2 xs2]) _ (by (try dsimp only) <;> simp only [Act.put, List.setIfInBounds_toArray, List.set_cons_zero, List.set_cons_succ, e35]) (HJ.out.pureStep 36 _ HB.out (by rw [HS.out]; rfl) (by rw [HS.out]; rfl) (by rw [HS.out]; rfl) (by rw [HS.out]; rfl))
      refine StepsJ.cons ?_ ?_
      · intro b f w1 hb hw hJ K hK
        have HB := Lib.hid hb
        have HJ := Lib.hid hJ
        have HW := Lib.hid hw
        clear hJ hw hb
        try dsimp only
        have e35 : f 35 = .bool true := HJ.out.pure 35 _ (by rw [HS.out]; rfl) (HW.out 35 (by decide))
        have e36 : f 36 = .agg #[.bool xs, .slice xq1 xr1 xs1, .slice xq2 xr2 xs2] := HJ.out.pure 36 _ (by rw [HS.out]; rfl) (HW.out 36 (by decide))
        simp only [e35, e36]
        rw [if_pos (by rfl)]
        go_simp
        go_at_call 40
        (with_reducible refine (C11.out _ _ (Vx_6.out.kp HJ.out.k)).mono ?_)
        rintro e w2 ⟨vr, rfl, hr, kk⟩
        exact hK.out _ vr _ (by (try dsimp only) <;> simp only [Act.put, List.setIfInBounds_toArray, List.set_cons_zero, List.set_cons_succ, e35, e36]) (HJ.out.callStep 37 vr _ HB.out kk hr (by rw [HS.out]; rfl) (by rw [HS.out]; rfl) (by rw [HS.out]; rfl) (by rw [HS.out]; rfl))
      refine StepsJ.cons ?_ ?_
      · intro b f w1 hb hw hJ K hK
        have HB := Lib.hid hb
        have HJ := Lib.hid hJ
        have HW := Lib.hid hw
        clear hJ hw hb
        try dsimp only
        have e35 : f 35 = .bool true := HJ.out.pure 35 _ (by rw [HS.out]; rfl) (HW.out 35 (by decide))
        simp only [e35]
        rw [if_pos (by rfl)]
        obtain ⟨xg0, xg1, xg2, _⟩ := (Bx_6.out.kp HJ.out.k).cells
        go_simp
        exact hK.out _ (.agg #[.bool xs, .slice xq1 xr1 xs1, .slice xq2 xr2 xs2]) _ (by (try dsimp only) <;> simp only [Act.put, List.setIfInBounds_toArray, List.set_cons_zero, List.set_cons_succ, e35]) (HJ.out.pureStep 38 _ HB.out (by rw [HS.out]; rfl) (by rw [HS.out]; rfl) (by rw [HS.out]; rfl) (by rw [HS.out]; rfl))
      refine StepsJ.cons ?_ ?_
      · intro b f w1 hb hw hJ K hK
        have HB := Lib.hid hb
        have HJ := Lib.hid hJ
        have HW := Lib.hid hw
        clear hJ hw hb
        try dsimp only
        have e35 : f 35 = .bool true := HJ.out.pure 35 _ (by rw [HS.out]; rfl) (HW.out 35 (by decide))
        have e38 : f 38 = .agg #[.bool xs, .slice xq1 xr1 xs1, .slice xq2 xr2 xs2] := HJ.out.pure 38 _ (by rw [HS.out]; rfl) (HW.out 38 (by decide))
        simp only [e35, e38]
        rw [if_pos (by rfl)]
        go_simp
        go_at_call 41
        (with_reducible refine (C12.out _ _ (Vx_6.out.kp HJ.out.k)).mono ?_)
        rintro e w2 ⟨vr, rfl, hr, kk⟩
        exact hK.out _ vr _ (by (try dsimp only) <;> simp only [Act.put, List.setIfInBounds_toArray, List.set_cons_zero, List.set_cons_succ, e35, e38]) (HJ.out.callStep 39 vr _ HB.out kk hr (by rw [HS.out]; rfl) (by rw [HS.out]; rfl) (by rw [HS.out]; rfl) (by rw [HS.out]; rfl))
      refine StepsJ.cons ?_ ?_
      · intro b f w1 hb hw hJ K hK
        have HB := Lib.hid hb
        have HJ := Lib.hid hJ
        have HW := Lib.hid hw
        clear hJ hw hb
        try dsimp only
        have e35 : f 35 = .bool true := HJ.out.pure 35 _ (by rw [HS.out]; rfl) (HW.out 35 (by decide))
        simp only [e35]
        rw [if_pos (by rfl)]
        have a37 := HJ.out.call 37 _ (by rw [HS.out]; rfl) (HW.out 37 (by decide))
        have a39 := HJ.out.call 39 _ (by rw [HS.out]; rfl) (HW.out 39 (by decide))
        have Ha37 := Lib.hid a37
        clear a37
        have Ha39 := Lib.hid a39
        clear a39
        go_simp
        go_at_call 19
        (with_reducible refine (C13.out _ _ _ Ha37.out Ha39.out).mono ?_)
        rintro e w2 ⟨rfl, kk⟩
        exact hK.out _ (.bool true) _ (by (try dsimp only) <;> simp only [Act.put, List.setIfInBounds_toArray, List.set_cons_zero, List.set_cons_succ, e35]) ((HJ.out.later kk).pureStep 40 _ HB.out (by rw [HS.out]; rfl) (by rw [HS.out]; rfl) (by rw [HS.out]; rfl) (by rw [HS.out]; rfl))
      refine StepsJ.cons ?_ ?_
      · intro b f w1 hb hw hJ K hK
        have HB := Lib.hid hb
        have HJ := Lib.hid hJ
        have HW := Lib.hid hw
        clear hJ hw hb
        try dsimp only
        have e35 : f 35 = .bool true := HJ.out.pure 35 _ (by rw [HS.out]; rfl) (HW.out 35 (by decide))
        have e40 : f 40 = .bool true := HJ.out.pure 40 _ (by rw [HS.out]; rfl) (HW.out 40 (by decide))
        simp only [e35, e40]
        rw [if_pos (by rfl)]
        go_simp
        exact hK.out _ (.bool true) _ (by (try dsimp only) <;> simp only [Act.put, List.setIfInBounds_toArray, List.set_cons_zero, List.set_cons_succ, e35, e40]) (HJ.out.pureStep 41 _ HB.out (by rw [HS.out]; rfl) (by rw [HS.out]; rfl) (by rw [HS.out]; rfl) (by rw [HS.out]; rfl))
      refine StepsJ.cons ?_ ?_
      · intro b f w1 hb hw hJ K hK
        have HB := Lib.hid hb
        have HJ := Lib.hid hJ
        have HW := Lib.hid hw
        clear hJ hw hb
        try dsimp only
        have e41 : f 41 = .bool true := HJ.out.pure 41 _ (by rw [HS.out]; rfl) (HW.out 41 (by decide))
        simp only [e41]
        rw [if_pos (by rfl)]
        go_simp
        exact hK.out _ (.bool true) _ (by (try dsimp only) <;> simp only [Act.put, List.setIfInBounds_toArray, List.set_cons_zero, List.set_cons_succ, e41]) (HJ.out.pureStep 42 _ HB.out (by rw [HS.out]; rfl) (by rw [HS.out]; rfl) (by rw [HS.out]; rfl) (by rw [HS.out]; rfl))
      refine StepsJ.cons ?_ ?_
      · intro b f w1 hb hw hJ K hK
        have HB := Lib.hid hb
        have HJ := Lib.hid hJ
        have HW := Lib.hid hw
        clear hJ hw hb
        try dsimp only
        have e42 : f 42 = .bool true := HJ.out.pure 42 _ (by rw [HS.out]; rfl) (HW.out 42 (by decide))
        simp only [e42]
        rw [if_pos (by rfl)]
        obtain ⟨xg0, xg1, xg2, _⟩ := (Bx_6.out.kp HJ.out.k).cells
        go_simp
        exact hK.out _ (.agg #[.bool xs, .slice xq1 xr1 xs1, .slice xq2 xr2 xs2]) _ (by (try dsimp only) <;> simp only [Act.put, List.setIfInBounds_toArray, List.set_cons_zero, List.set_cons_succ, e42]) (HJ.out.pureStep 43 _ HB.out (by rw [HS.out]; rfl) (by rw [HS.out]; rfl) (by rw [HS.out]; rfl) (by rw [HS.out]; rfl))
      refine StepsJ.cons ?_ ?_
      · intro b f w1 hb hw hJ K hK
        have HB := Lib.hid hb
        have HJ := Lib.hid hJ
        have HW := Lib.hid hw
        clear hJ hw hb
        try dsimp only
        have e42 : f 42 = .bool true := HJ.out.pure 42 _ (by rw [HS.out]; rfl) (HW.out 42 (by decide))
        simp only [e42]
        rw [if_pos (by rfl)]
        obtain ⟨yg0, yg1, yg2, _⟩ := (By_6.out.kp HJ.out.k).cells
        go_simp
        exact hK.out _ (.agg #[.bool ys, .slice yq1 yr1 ys1, .slice yq2 yr2 ys2]) _ (by (try dsimp only) <;> simp only [Act.put, List.setIfInBounds_toArray, List.set_cons_zero, List.set_cons_succ, e42]) (HJ.out.pureStep 44 _ HB.out (by rw [HS.out]; rfl) (by rw [HS.out]; rfl) (by rw [HS.out]; rfl) (by rw [HS.out]; rfl))
      refine StepsJ.cons ?_ ?_
      · intro b f w1 hb hw hJ K hK
        have HB := Lib.hid hb
        have HJ := Lib.hid hJ
        have HW := Lib.hid hw
        clear hJ hw hb
        try dsimp only
        have e42 : f 42 = .bool true := HJ.out.pure 42 _ (by rw [HS.out]; rfl) (HW.out 42 (by decide))
        have e43 : f 43 = .agg #[.bool xs, .slice xq1 xr1 xs1, .slice xq2 xr2 xs2] := HJ.out.pure 43 _ (by rw [HS.out]; rfl) (HW.out 43 (by decide))
        have e44 : f 44 = .agg #[.bool ys, .slice yq1 yr1 ys1, .slice yq2 yr2 ys2] := HJ.out.pure 44 _ (by rw [HS.out]; rfl) (HW.out 44 (by decide))
        simp only [e42, e43, e44]
        rw [if_pos (by rfl)]
        go_simp
        go_at_call 42
        (with_reducible refine (C14.out _ _ _ (Vx_6.out.kp HJ.out.k) (Vy_6.out.kp HJ.out.k) (Z_6.out.kp HJ.out.k)).mono ?_)
        rintro e w2 ⟨vr, rfl, hr, kk⟩
        exact hK.out _ vr _ (by (try dsimp only) <;> simp only [Act.put, List.setIfInBounds_toArray, List.set_cons_zero, List.set_cons_succ, e42, e43, e44]) (HJ.out.callStep 45 vr _ HB.out kk hr (by rw [HS.out]; rfl) (by rw [HS.out]; rfl) (by rw [HS.out]; rfl) (by rw [HS.out]; rfl))
      refine StepsJ.cons ?_ ?_
      · intro b f w1 hb hw hJ K hK
        have HB := Lib.hid hb
        have HJ := Lib.hid hJ
        have HW := Lib.hid hw
        clear hJ hw hb
        try dsimp only
        have e42 : f 42 = .bool true := HJ.out.pure 42 _ (by rw [HS.out]; rfl) (HW.out 42 (by decide))
        simp only [e42]
        rw [if_pos (by rfl)]
        obtain ⟨xg0, xg1, xg2, _⟩ := (Bx_6.out.kp HJ.out.k).cells
        go_simp
        exact hK.out _ (.agg #[.bool xs, .slice xq1 xr1 xs1, .slice xq2 xr2 xs2]) _ (by (try dsimp only) <;> simp only [Act.put, List.setIfInBounds_toArray, List.set_cons_zero, List.set_cons_succ, e42]) (HJ.out.pureStep 46 _ HB.out (by rw [HS.out]; rfl) (by rw [HS.out]; rfl) (by rw [HS.out]; rfl) (by rw [HS.out]; rfl))
      refine StepsJ.cons ?_ ?_
      · intro b f w1 hb hw hJ K hK
        have HB := Lib.hid hb
        have HJ := Lib.hid hJ
        have HW := Lib.hid hw
        clear hJ hw hb
        try dsimp only
        have e42 : f 42 = .bool true := HJ.out.pure 42 _ (by rw [HS.out]; rfl) (HW.out 42 (by decide))
        simp only [e42]
        rw [if_pos (by rfl)]
        obtain ⟨yg0, yg1, yg2, _⟩ := (By_6.out.kp HJ.out.k).cells
        go_simp
        exact hK.out _ (.agg #[.bool ys, .slice yq1 yr1 ys1, .slice yq2 yr2 ys2]) _ (by (try dsimp only) <;> simp only [Act.put, List.setIfInBounds_toArray, List.set_cons_zero, List.set_cons_succ, e42]) (HJ.out.pureStep 47 _ HB.out (by rw [HS.out]; rfl) (by rw [HS.out]; rfl) (by rw [HS.out]; rfl) (by rw [HS.out]; rfl))
      refine StepsJ.cons ?_ ?_
      · intro b f w1 hb hw hJ K hK
        have HB := Lib.hid hb
        have HJ := Lib.hid hJ
        have HW := Lib.hid hw
        clear hJ hw hb
        try dsimp only
        have e42 : f 42 = .bool true := HJ.out.pure 42 _ (by rw [HS.out]; rfl) (HW.out 42 (by decide))
        have e46 : f 46 = .agg #[.bool xs, .slice xq1 xr1 xs1, .slice xq2 xr2 xs2] := HJ.out.pure 46 _ (by rw [HS.out]; rfl) (HW.out 46 (by decide))
        have e47 : f 47 = .agg #[.bool ys, .slice yq1 yr1 ys1, .slice yq2 yr2 ys2] := HJ.out.pure 47 _ (by rw [HS.out]; rfl) (HW.out 47 (by decide))
        simp only [e42, e46, e47]
        rw [if_pos (by rfl)]
        go_simp
        go_at_call 43
        (with_reducible refine (C15.out _ _ _ (Vx_6.out.kp HJ.out.k) (Vy_6.out.kp HJ.out.k)).mono ?_)
        rintro e w2 ⟨vr, rfl, hr, kk⟩
        exact hK.out _ vr _ (by (try dsimp only) <;> simp only [Act.put, List.setIfInBounds_toArray, List.set_cons_zero, List.set_cons_succ, e42, e46, e47]) (HJ.out.callStep 48 vr _ HB.out kk hr (by rw [HS.out]; rfl) (by rw [HS.out]; rfl) (by rw [HS.out]; rfl) (by rw [HS.out]; rfl))
      refine StepsJ.cons ?_ ?_
      · intro b f w1 hb hw hJ K hK
        have HB := Lib.hid hb
        have HJ := Lib.hid hJ
        have HW := Lib.hid hw
        clear hJ hw hb
        try dsimp only
        have e42 : f 42 = .bool true := HJ.out.pure 42 _ (by rw [HS.out]; rfl) (HW.out 42 (by decide))
        simp only [e42]
        rw [if_pos (by rfl)]
        have a45 := HJ.out.call 45 _ (by rw [HS.out]; rfl) (HW.out 45 (by decide))
        have a48 := HJ.out.call 48 _ (by rw [HS.out]; rfl) (HW.out 48 (by decide))
        have Ha45 := Lib.hid a45
        clear a45
        have Ha48 := Lib.hid a48
        clear a48
        go_simp
        go_at_call 19
        (with_reducible refine (C16.out _ _ _ Ha45.out Ha48.out).mono ?_)
        rintro e w2 ⟨rfl, kk⟩
        exact hK.out _ (.bool true) _ (by (try dsimp only) <;> simp only [Act.put, List.setIfInBounds_toArray, List.set_cons_zero, List.set_cons_succ, e42]) ((HJ.out.later kk).pureStep 49 _ HB.out (by rw [HS.out]; rfl) (by rw [HS.out]; rfl) (by rw [HS.out]; rfl) (by rw [HS.out]; rfl))
      refine StepsJ.cons ?_ ?_
      · intro b f w1 hb hw hJ K hK
        have HB := Lib.hid hb
        have HJ := Lib.hid hJ
        have HW := Lib.hid hw
        clear hJ hw hb
        try dsimp only
        have e42 : f 42 = .bool true := HJ.out.pure 42 _ (by rw [HS.out]; rfl) (HW.out 42 (by decide))
        have e49 : f 49 = .bool true := HJ.out.pure 49 _ (by rw [HS.out]; rfl) (HW.out 49 (by decide))
        simp only [e42, e49]
        rw [if_pos (by rfl)]
        go_simp
        exact hK.out _ (.bool true) _ (by (try dsimp only) <;> simp only [Act.put, List.setIfInBounds_toArray, List.set_cons_zero, List.set_cons_succ, e42, e49]) (HJ.out.pureStep 50 _ HB.out (by rw [HS.out]; rfl) (by rw [HS.out]; rfl) (by rw [HS.out]; rfl) (by rw [HS.out]; rfl))
      refine StepsJ.cons ?_ ?_
      · intro b f w1 hb hw hJ K hK
        have HB := Lib.hid hb
        have HJ := Lib.hid hJ
        have HW := Lib.hid hw
        clear hJ hw hb
        try dsimp only
        have e50 : f 50 = .bool true := HJ.out.pure 50 _ (by rw [HS.out]; rfl) (HW.out 50 (by decide))
        simp only [e50]
        rw [if_pos (by rfl)]
        go_simp
        exact hK.out _ (.bool true) _ (by (try dsimp only) <;> simp only [Act.put, List.setIfInBounds_toArray, List.set_cons_zero, List.set_cons_succ, e50]) (HJ.out.pureStep 51 _ HB.out (by rw [HS.out]; rfl) (by rw [HS.out]; rfl) (by rw [HS.out]; rfl) (by rw [HS.out]; rfl))
      refine StepsJ.cons ?_ ?_
      · intro b f w1 hb hw hJ K hK
        have HB := Lib.hid hb
        have HJ := Lib.hid hJ
        have HW := Lib.hid hw
        clear hJ hw hb
        try dsimp only
        have e51 : f 51 = .bool true := HJ.out.pure 51 _ (by rw [HS.out]; rfl) (HW.out 51 (by decide))
        simp only [e51]
        rw [if_pos (by rfl)]
        obtain ⟨xg0, xg1, xg2, _⟩ := (Bx_6.out.kp HJ.out.k).cells
        go_simp
        exact hK.out _ (.agg #[.bool xs, .slice xq1 xr1 xs1, .slice xq2 xr2 xs2]) _ (by (try dsimp only) <;> simp only [Act.put, List.setIfInBounds_toArray, List.set_cons_zero, List.set_cons_succ, e51]) (HJ.out.pureStep 52 _ HB.out (by rw [HS.out]; rfl) (by rw [HS.out]; rfl) (by rw [HS.out]; rfl) (by rw [HS.out]; rfl))
      refine StepsJ.cons ?_ ?_
      · intro b f w1 hb hw hJ K hK
        have HB := Lib.hid hb
        have HJ := Lib.hid hJ
        have HW := Lib.hid hw
        clear hJ hw hb
        try dsimp only
        have e51 : f 51 = .bool true := HJ.out.pure 51 _ (by rw [HS.out]; rfl) (HW.out 51 (by decide))
        simp only [e51]
        rw [if_pos (by rfl)]
        obtain ⟨yg0, yg1, yg2, _⟩ := (By_6.out.kp HJ.out.k).cells
        go_simp
        exact hK.out _ (.agg #[.bool ys, .slice yq1 yr1 ys1, .slice yq2 yr2 ys2]) _ (by (try dsimp only) <;> simp only [Act.put, List.setIfInBounds_toArray, List.set_cons_zero, List.set_cons_succ, e51]) (HJ.out.pureStep 53 _ HB.out (by rw [HS.out]; rfl) (by rw [HS.out]; rfl) (by rw [HS.out]; rfl) (by rw [HS.out]; rfl))
      refine StepsJ.cons ?_ ?_
      · intro b f w1 hb hw hJ K hK
        have HB := Lib.hid hb
        have HJ := Lib.hid hJ
        have HW := Lib.hid hw
        clear hJ hw hb
        try dsimp only
        have e51 : f 51 = .bool true := HJ.out.pure 51 _ (by rw [HS.out]; rfl) (HW.out 51 (by decide))
        have e52 : f 52 = .agg #[.bool xs, .slice xq1 xr1 xs1, .slice xq2 xr2 xs2] := HJ.out.pure 52 _ (by rw [HS.out]; rfl) (HW.out 52 (by decide))
        have e53 : f 53 = .agg #[.bool ys, .slice yq1 yr1 ys1, .slice yq2 yr2 ys2] := HJ.out.pure 53 _ (by rw [HS.out]; rfl) (HW.out 53 (by decide))
        simp only [e51, e52, e53]
        rw [if_pos (by rfl)]
        go_simp
        go_at_call 44
        (with_reducible refine (C17.out _ _ _ (Vx_6.out.kp HJ.out.k) (Vy_6.out.kp HJ.out.k) (Z_6.out.kp HJ.out.k)).mono ?_)
        rintro e w2 ⟨vr, rfl, hr, kk⟩
        exact hK.out _ vr _ (by (try dsimp only) <;> simp only [Act.put, List.setIfInBounds_toArray, List.set_cons_zero, List.set_cons_succ, e51, e52, e53]) (HJ.out.callStep 54 vr _ HB.out kk hr (by rw [HS.out]; rfl) (by rw [HS.out]; rfl) (by rw [HS.out]; rfl) (by rw [HS.out]; rfl))
      refine StepsJ.cons ?_ ?_
      · intro b f w1 hb hw hJ K hK
        have HB := Lib.hid hb
        have HJ := Lib.hid hJ
        have HW := Lib.hid hw
        clear hJ hw hb
        try dsimp only
        have e51 : f 51 = .bool true := HJ.out.pure 51 _ (by rw [HS.out]; rfl) (HW.out 51 (by decide))
        simp only [e51]
        rw [if_pos (by rfl)]
        obtain ⟨xg0, xg1, xg2, _⟩ := (Bx_6.out.kp HJ.out.k).cells
        go_simp
        exact hK.out _ (.agg #[.bool xs, .slice xq1 xr1 xs1, .slice xq2 xr2 xs2]) _ (by (try dsimp only) <;> simp only [Act.put, List.setIfInBounds_toArray, List.set_cons_zero, List.set_cons_succ, e51]) (HJ.out.pureStep 55 _ HB.out (by rw [HS.out]; rfl) (by rw [HS.out]; rfl) (by rw [HS.out]; rfl) (by rw [HS.out]; rfl))
      refine StepsJ.cons ?_ ?_
      · intro b f w1 hb hw hJ K hK
        have HB := Lib.hid hb
        have HJ := Lib.hid hJ
        have HW := Lib.hid hw
        clear hJ hw hb
        try dsimp only
        have e51 : f 51 = .bool true := HJ.out.pure 51 _ (by rw [HS.out]; rfl) (HW.out 51 (by decide))
        simp only [e51]
        rw [if_pos (by rfl)]
        obtain ⟨yg0, yg1, yg2, _⟩ := (By_6.out.kp HJ.out.k).cells
        go_simp
        exact hK.out _ (.agg #[.bool ys, .slice yq1 yr1 ys1, .slice yq2 yr2 ys2]) _ (by (try dsimp only) <;> simp only [Act.put, List.setIfInBounds_toArray, List.set_cons_zero, List.set_cons_succ, e51]) (HJ.out.pureStep 56 _ HB.out (by rw [HS.out]; rfl) (by rw [HS.out]; rfl) (by rw [HS.out]; rfl) (by rw [HS.out]; rfl))
      refine StepsJ.cons ?_ ?_
      · intro b f w1 hb hw hJ K hK
        have HB := Lib.hid hb
        have HJ := Lib.hid hJ
        have HW := Lib.hid hw
        clear hJ hw hb
        try dsimp only
        have e51 : f 51 = .bool true := HJ.out.pure 51 _ (by rw [HS.out]; rfl) (HW.out 51 (by decide))
        have e55 : f 55 = .agg #[.bool xs, .slice xq1 xr1 xs1, .slice xq2 xr2 xs2] := HJ.out.pure 55 _ (by rw [HS.out]; rfl) (HW.out 55 (by decide))
        have e56 : f 56 = .agg #[.bool ys, .slice yq1 yr1 ys1, .slice yq2 yr2 ys2] := HJ.out.pure 56 _ (by rw [HS.out]; rfl) (HW.out 56 (by decide))
        simp only [e51, e55, e56]
        rw [if_pos (by rfl)]
        go_simp
        go_at_call 45
        (with_reducible refine (C18.out _ _ _ (Vx_6.out.kp HJ.out.k) (Vy_6.out.kp HJ.out.k)).mono ?_)
        rintro e w2 ⟨vr, rfl, hr, kk⟩
        exact hK.out _ vr _ (by (try dsimp only) <;> simp only [Act.put, List.setIfInBounds_toArray, List.set_cons_zero, List.set_cons_succ, e51, e55, e56]) (HJ.out.callStep 57 vr _ HB.out kk hr (by rw [HS.out]; rfl) (by rw [HS.out]; rfl) (by rw [HS.out]; rfl) (by rw [HS.out]; rfl))
      refine StepsJ.cons ?_ ?_
      · intro b f w1 hb hw hJ K hK
        have HB := Lib.hid hb
        have HJ := Lib.hid hJ
        have HW := Lib.hid hw
        clear hJ hw hb
        try dsimp only
        have e51 : f 51 = .bool true := HJ.out.pure 51 _ (by rw [HS.out]; rfl) (HW.out 51 (by decide))
        simp only [e51]
        rw [if_pos (by rfl)]
        have a54 := HJ.out.call 54 _ (by rw [HS.out]; rfl) (HW.out 54 (by decide))
        have a57 := HJ.out.call 57 _ (by rw [HS.out]; rfl) (HW.out 57 (by decide))
        have Ha54 := Lib.hid a54
        clear a54
        have Ha57 := Lib.hid a57
        clear a57
        go_simp
        go_at_call 19
        (with_reducible refine (C19.out _ _ _ Ha54.out Ha57.out).mono ?_)
        rintro e w2 ⟨rfl, kk⟩
        exact hK.out _ (.bool true) _ (by (try dsimp only) <;> simp only [Act.put, List.setIfInBounds_toArray, List.set_cons_zero, List.set_cons_succ, e51]) ((HJ.out.later kk).pureStep 58 _ HB.out (by rw [HS.out]; rfl) (by rw [HS.out]; rfl) (by rw [HS.out]; rfl) (by rw [HS.out]; rfl))
      refine StepsJ.cons ?_ ?_
      · intro b f w1 hb hw hJ K hK
        have HB := Lib.hid hb
        have HJ := Lib.hid hJ
        have HW := Lib.hid hw
        clear hJ hw hb
        try dsimp only
        have e51 : f 51 = .bool true := HJ.out.pure 51 _ (by rw [HS.out]; rfl) (HW.out 51 (by decide))
        have e58 : f 58 = .bool true := HJ.out.pure 58 _ (by rw [HS.out]; rfl) (HW.out 58 (by decide))
        simp only [e51, e58]
        rw [if_pos (by rfl)]
        go_simp
        exact hK.out _ (.bool true) _ (by (try dsimp only) <;> simp only [Act.put, List.setIfInBounds_toArray, List.set_cons_zero, List.set_cons_succ, e51, e58]) (HJ.out.pureStep 59 _ HB.out (by rw [HS.out]; rfl) (by rw [HS.out]; rfl) (by rw [HS.out]; rfl) (by rw [HS.out]; rfl))
      refine StepsJ.cons ?_ ?_
      · intro b f w1 hb hw hJ K hK
        have HB := Lib.hid hb
        have HJ := Lib.hid hJ
        have HW := Lib.hid hw
        clear hJ hw hb
        try dsimp only
        have e59 : f 59 = .bool true := HJ.out.pure 59 _ (by rw [HS.out]; rfl) (HW.out 59 (by decide))
        simp only [e59]
        rw [if_pos (by rfl)]
        go_simp
        exact hK.out _ (.bool true) _ (by (try dsimp only) <;> simp only [Act.put, List.setIfInBounds_toArray, List.set_cons_zero, List.set_cons_succ, e59]) (HJ.out.pureStep 60 _ HB.out (by rw [HS.out]; rfl) (by rw [HS.out]; rfl) (by rw [HS.out]; rfl) (by rw [HS.out]; rfl))
      refine StepsJ.cons ?_ ?_
      · intro b f w1 hb hw hJ K hK
        have HB := Lib.hid hb
        have HJ := Lib.hid hJ
        have HW := Lib.hid hw
        clear hJ hw hb
        try dsimp only
        have e60 : f 60 = .bool true := HJ.out.pure 60 _ (by rw [HS.out]; rfl) (HW.out 60 (by decide))
        simp only [e60]
        rw [if_pos (by rfl)]
        obtain ⟨xg0, xg1, xg2, _⟩ := (Bx_6.out.kp HJ.out.k).cells
        go_simp
        exact hK.out _ (.agg #[.bool xs, .slice xq1 xr1 xs1, .slice xq2 xr2 xs2]) _ (by (try dsimp only) <;> simp only [Act.put, List.setIfInBounds_toArray, List.set_cons_zero, List.set_cons_succ, e60]) (HJ.out.pureStep 61 _ HB.out (by rw [HS.out]; rfl) (by rw [HS.out]; rfl) (by rw [HS.out]; rfl) (by rw [HS.out]; rfl))
      refine StepsJ.cons ?_ ?_
      · intro b f w1 hb hw hJ K hK
        have HB := Lib.hid hb
        have HJ := Lib.hid hJ
        have HW := Lib.hid hw
        clear hJ hw hb
        try dsimp only
        have e60 : f 60 = .bool true := HJ.out.pure 60 _ (by rw [HS.out]; rfl) (HW.out 60 (by decide))
        simp only [e60]
        rw [if_pos (by rfl)]
        obtain ⟨yg0, yg1, yg2, _⟩ := (By_6.out.kp HJ.out.k).cells
        go_simp
        exact hK.out _ (.agg #[.bool ys, .slice yq1 yr1 ys1, .slice yq2 yr2 ys2]) _ (by (try dsimp only) <;> simp only [Act.put, List.setIfInBounds_toArray, List.set_cons_zero, List.set_cons_succ, e60]) (HJ.out.pureStep 62 _ HB.out (by rw [HS.out]; rfl) (by rw [HS.out]; rfl) (by rw [HS.out]; rfl) (by rw [HS.out]; rfl))
      refine StepsJ.cons ?_ ?_
      · intro b f w1 hb hw hJ K hK
        have HB := Lib.hid hb
        have HJ := Lib.hid hJ
        have HW := Lib.hid hw
        clear hJ hw hb
        try dsimp only
        have e60 : f 60 = .bool true := HJ.out.pure 60 _ (by rw [HS.out]; rfl) (HW.out 60 (by decide))
        have e61 : f 61 = .agg #[.bool xs, .slice xq1 xr1 xs1, .slice xq2 xr2 xs2] := HJ.out.pure 61 _ (by rw [HS.out]; rfl) (HW.out 61 (by decide))
        have e62 : f 62 = .agg #[.bool ys, .slice yq1 yr1 ys1, .slice yq2 yr2 ys2] := HJ.out.pure 62 _ (by rw [HS.out]; rfl) (HW.out 62 (by decide))
        simp only [e60, e61, e62]
        rw [if_pos (by rfl)]
        go_simp
        go_at_call 46
        (with_reducible refine (C20.out _ _ _ (Vx_6.out.kp HJ.out.k) (Vy_6.out.kp HJ.out.k) (Z_6.out.kp HJ.out.k)).mono ?_)
        rintro e w2 ⟨vr, rfl, hr, kk⟩
        exact hK.out _ vr _ (by (try dsimp only) <;> simp only [Act.put, List.setIfInBounds_toArray, List.set_cons_zero, List.set_cons_succ, e60, e61, e62]) (HJ.out.callStep 63 vr _ HB.out kk hr (by rw [HS.out]; rfl) (by rw [HS.out]; rfl) (by rw [HS.out]; rfl) (by rw [HS.out]; rfl))
      refine StepsJ.cons ?_ ?_
      · intro b f w1 hb hw hJ K hK
        have HB := Lib.hid hb
        have HJ := Lib.hid hJ
        have HW := Lib.hid hw
        clear hJ hw hb
        try dsimp only
        have e60 : f 60 = .bool true := HJ.out.pure 60 _ (by rw [HS.out]; rfl) (HW.out 60 (by decide))
        simp only [e60]
        rw [if_pos (by rfl)]
        obtain ⟨xg0, xg1, xg2, _⟩ := (Bx_6.out.kp HJ.out.k).cells
        go_simp
        exact hK.out _ (.agg #[.bool xs, .slice xq1 xr1 xs1, .slice xq2 xr2 xs2]) _ (by (try dsimp only) <;> simp only [Act.put, List.setIfInBounds_toArray, List.set_cons_zero, List.set_cons_succ, e60]) (HJ.out.pureStep 64 _ HB.out (by rw [HS.out]; rfl) (by rw [HS.out]; rfl) (by rw [HS.out]; rfl) (by rw [HS.out]; rfl))
      refine StepsJ.cons ?_ ?_
      · intro b f w1 hb hw hJ K hK
        have HB := Lib.hid hb
        have HJ := Lib.hid hJ
        have HW := Lib.hid hw
        clear hJ hw hb
        try dsimp only
        have e60 : f 60 = .bool true := HJ.out.pure 60 _ (by rw [HS.out]; rfl) (HW.out 60 (by decide))
        simp only [e60]
        rw [if_pos (by rfl)]
        obtain ⟨yg0, yg1, yg2, _⟩ := (By_6.out.kp HJ.out.k).cells
        go_simp
        exact hK.out _ (.agg #[.bool ys, .slice yq1 yr1 ys1, .slice yq2 yr2 ys2]) _ (by (try dsimp only) <;> simp only [Act.put, List.setIfInBounds_toArray, List.set_cons_zero, List.set_cons_succ, e60]) (HJ.out.pureStep 65 _ HB.out (by rw [HS.out]; rfl) (by rw [HS.out]; rfl) (by rw [HS.out]; rfl) (by rw [HS.out]; rfl))
      refine StepsJ.cons ?_ ?_
      · intro b f w1 hb hw hJ K hK
        have HB := Lib.hid hb
        have HJ := Lib.hid hJ
        have HW := Lib.hid hw
        clear hJ hw hb
        try dsimp only
        have e60 : f 60 = .bool true := HJ.out.pure 60 _ (by rw [HS.out]; rfl) (HW.out 60 (by decide))
        have e64 : f 64 = .agg #[.bool xs, .slice xq1 xr1 xs1, .slice xq2 xr2 xs2] := HJ.out.pure 64 _ (by rw [HS.out]; rfl) (HW.out 64 (by decide))
        have e65 : f 65 = .agg #[.bool ys, .slice yq1 yr1 ys1, .slice yq2 yr2 ys2] := HJ.out.pure 65 _ (by rw [HS.out]; rfl) (HW.out 65 (by decide))
        simp only [e60, e64, e65]
        rw [if_pos (by rfl)]
        go_simp
        go_at_call 47
        (with_reducible refine (C21.out _ _ _ (Vx_6.out.kp HJ.out.k) (Vy_6.out.kp HJ.out.k)).mono ?_)
        rintro e w2 ⟨vr, rfl, hr, kk⟩
        exact hK.out _ vr _ (by (try dsimp only) <;> simp only [Act.put, List.setIfInBounds_toArray, List.set_cons_zero, List.set_cons_succ, e60, e64, e65]) (HJ.out.callStep 66 vr _ HB.out kk hr (by rw [HS.out]; rfl) (by rw [HS.out]; rfl) (by rw [HS.out]; rfl) (by rw [HS.out]; rfl))
      refine StepsJ.cons ?_ ?_
      · intro b f w1 hb hw hJ K hK
        have HB := Lib.hid hb
        have HJ := Lib.hid hJ
        have HW := Lib.hid hw
        clear hJ hw hb
        try dsimp only
        have e60 : f 60 = .bool true := HJ.out.pure 60 _ (by rw [HS.out]; rfl) (HW.out 60 (by decide))
        simp only [e60]
        rw [if_pos (by rfl)]
        have a63 := HJ.out.call 63 _ (by rw [HS.out]; rfl) (HW.out 63 (by decide))
        have a66 := HJ.out.call 66 _ (by rw [HS.out]; rfl) (HW.out 66 (by decide))
        have Ha63 := Lib.hid a63
        clear a63
        have Ha66 := Lib.hid a66
        clear a66
        go_simp
        go_at_call 19
        (with_reducible refine (C22.out _ _ _ Ha63.out Ha66.out).mono ?_)
        rintro e w2 ⟨rfl, kk⟩
        exact hK.out _ (.bool true) _ (by (try dsimp only) <;> simp only [Act.put, List.setIfInBounds_toArray, List.set_cons_zero, List.set_cons_succ, e60]) ((HJ.out.later kk).pureStep 67 _ HB.out (by rw [HS.out]; rfl) (by rw [HS.out]; rfl) (by rw [HS.out]; rfl) (by rw [HS.out]; rfl))
      refine StepsJ.cons ?_ ?_
      · intro b f w1 hb hw hJ K hK
        have HB := Lib.hid hb
        have HJ := Lib.hid hJ
        have HW := Lib.hid hw
        clear hJ hw hb
        try dsimp only
        have e60 : f 60 = .bool true := HJ.out.pure 60 _ (by rw [HS.out]; rfl) (HW.out 60 (by decide))
        have e67 : f 67 = .bool true := HJ.out.pure 67 _ (by rw [HS.out]; rfl) (HW.out 67 (by decide))
        simp only [e60, e67]
        rw [if_pos (by rfl)]
        go_simp
        exact hK.out _ (.bool true) _ (by (try dsimp only) <;> simp only [Act.put, List.setIfInBounds_toArray, List.set_cons_zero, List.set_cons_succ, e60, e67]) (HJ.out.pureStep 68 _ HB.out (by rw [HS.out]; rfl) (by rw [HS.out]; rfl) (by rw [HS.out]; rfl) (by rw [HS.out]; rfl))
      refine StepsJ.cons ?_ ?_
      · intro b f w1 hb hw hJ K hK
        have HB := Lib.hid hb
        have HJ := Lib.hid hJ
        have HW := Lib.hid hw
        clear hJ hw hb
        try dsimp only
        have e68 : f 68 = .bool true := HJ.out.pure 68 _ (by rw [HS.out]; rfl) (HW.out 68 (by decide))
        simp only [e68]
        rw [if_pos (by rfl)]
        go_simp
        exact hK.out _ (.bool true) _ (by (try dsimp only) <;> simp only [Act.put, List.setIfInBounds_toArray, List.set_cons_zero, List.set_cons_succ, e68]) (HJ.out.pureStep 69 _ HB.out (by rw [HS.out]; rfl) (by rw [HS.out]; rfl) (by rw [HS.out]; rfl) (by rw [HS.out]; rfl))
      refine StepsJ.cons ?_ ?_
      · intro b f w1 hb hw hJ K hK
        have HB := Lib.hid hb
        have HJ := Lib.hid hJ
        have HW := Lib.hid hw
        clear hJ hw hb
        try dsimp only
        have e69 : f 69 = .bool true := HJ.out.pure 69 _ (by rw [HS.out]; rfl) (HW.out 69 (by decide))
        simp only [e69]
        rw [if_pos (by rfl)]
        go_simp
        go_at_call 14
        (with_reducible refine (CAW.out _ (T_6.out.kp HJ.out.k).k (Z_6.out.kp HJ.out.k)).mono ?_)
        rintro e w2 ⟨rfl, kk⟩
        exact hK.out _ (.bool true) _ (by (try dsimp only) <;> simp only [Act.put, List.setIfInBounds_toArray, List.set_cons_zero, List.set_cons_succ, e69]) ((HJ.out.later kk).pureStep 70 _ HB.out (by rw [HS.out]; rfl) (by rw [HS.out]; rfl) (by rw [HS.out]; rfl) (by rw [HS.out]; rfl))
      refine StepsJ.cons ?_ ?_
      · intro b f w1 hb hw hJ K hK
        have HB := Lib.hid hb
        have HJ := Lib.hid hJ
        have HW := Lib.hid hw
        clear hJ hw hb
        try dsimp only
        have e69 : f 69 = .bool true := HJ.out.pure 69 _ (by rw [HS.out]; rfl) (HW.out 69 (by decide))
        have e70 : f 70 = .bool true := HJ.out.pure 70 _ (by rw [HS.out]; rfl) (HW.out 70 (by decide))
        simp only [e69, e70]
        rw [if_pos (by rfl)]
        go_simp
        exact hK.out _ (.bool true) _ (by (try dsimp only) <;> simp only [Act.put, List.setIfInBounds_toArray, List.set_cons_zero, List.set_cons_succ, e69, e70]) (HJ.out.pureStep 71 _ HB.out (by rw [HS.out]; rfl) (by rw [HS.out]; rfl) (by rw [HS.out]; rfl) (by rw [HS.out]; rfl))
      refine StepsJ.cons ?_ ?_
      · intro b f w1 hb hw hJ K hK
        have HB := Lib.hid hb
        have HJ := Lib.hid hJ
        have HW := Lib.hid hw
        clear hJ hw hb
        try dsimp only
        have e71 : f 71 = .bool true := HJ.out.pure 71 _ (by rw [HS.out]; rfl) (HW.out 71 (by decide))
        simp only [e71]
        rw [if_pos (by rfl)]
        go_simp
        exact hK.out _ (.bool true) _ (by (try dsimp only) <;> simp only [Act.put, List.setIfInBounds_toArray, List.set_cons_zero, List.set_cons_succ, e71]) (HJ.out.pureStep 72 _ HB.out (by rw [HS.out]; rfl) (by rw [HS.out]; rfl) (by rw [HS.out]; rfl) (by rw [HS.out]; rfl))
      exact StepsJ.nil
    case hend =>
      intro b f w7 hb hJ
      try dsimp only
      have e72 : f 72 = .bool true := hJ.pure 72 _ (by rw [HS.out]; rfl) (hb 72 (by decide))
      have kk := hJ.k
      clear hJ hb
      have T_7 := Lib.hid (T_6.out.kp kk)
      have Z_7 := Lib.hid (Z_6.out.kp kk)
      have Vx_7 := Lib.hid (Vx_6.out.kp kk)
      have Bx_7 := Lib.hid (Bx_6.out.kp kk)
      have Vy_7 := Lib.hid (Vy_6.out.kp kk)
      have By_7 := Lib.hid (By_6.out.kp kk)
      clear kk T_6 Z_6 Vx_6 Bx_6 Vy_6 By_6
      simp only [e72]
      clear e72
      generalize f 0 = yb0
      generalize f 1 = yb1
      generalize f 2 = yb2
      generalize f 3 = yb3
      generalize f 4 = yb4
      generalize f 5 = yb5
      generalize f 6 = yb6
      generalize f 7 = yb7
      generalize f 8 = yb8
      generalize f 9 = yb9
      generalize f 10 = yb10
      generalize f 11 = yb11
      generalize f 12 = yb12
      generalize f 13 = yb13
      generalize f 14 = yb14
      generalize f 15 = yb15
      generalize f 16 = yb16
      generalize f 17 = yb17
      generalize f 18 = yb18
      generalize f 19 = yb19
      generalize f 20 = yb20
      generalize f 21 = yb21
      generalize f 22 = yb22
      generalize f 23 = yb23
      generalize f 24 = yb24
      generalize f 25 = yb25
      generalize f 26 = yb26
      generalize f 27 = yb27
      generalize f 28 = yb28
      generalize f 29 = yb29
      generalize f 30 = yb30
      generalize f 31 = yb31
      generalize f 32 = yb32
      generalize f 33 = yb33
      generalize f 34 = yb34
      generalize f 35 = yb35
      generalize f 36 = yb36
      generalize f 37 = yb37
      generalize f 38 = yb38
      generalize f 39 = yb39
      generalize f 40 = yb40
      generalize f 41 = yb41
      generalize f 42 = yb42
      generalize f 43 = yb43
      generalize f 44 = yb44
      generalize f 45 = yb45
      generalize f 46 = yb46
      generalize f 47 = yb47
      generalize f 48 = yb48
      generalize f 49 = yb49
      generalize f 50 = yb50
      generalize f 51 = yb51
      generalize f 52 = yb52
      generalize f 53 = yb53
      generalize f 54 = yb54
      generalize f 55 = yb55
      generalize f 56 = yb56
      generalize f 57 = yb57
      generalize f 58 = yb58
      generalize f 59 = yb59
      generalize f 60 = yb60
      generalize f 61 = yb61
      generalize f 62 = yb62
      generalize f 63 = yb63
      generalize f 64 = yb64
      generalize f 65 = yb65
      generalize f 66 = yb66
      generalize f 67 = yb67
      generalize f 68 = yb68
      generalize f 69 = yb69
      generalize f 70 = yb70
      generalize f 71 = yb71
      clear HS S f b
      obtain ⟨xz0, xz1, xz2⟩ := T_7.out.ra.cells
      obtain ⟨yz0, yz1, yz2⟩ := T_7.out.rb.cells
      obtain ⟨xg0, xg1, xg2, _⟩ := Bx_7.out.cells
      obtain ⟨yg0, yg1, yg2, _⟩ := By_7.out.cells
      go_wp2
      go_ret
      exact ⟨rfl, T_7.out.k⟩

theorem compares_walk {w : World} {sa : Bool} {ua ub : Value} {n1 d1 : List Nat} {sb : Bool} {va vb : Value} {n2 d2 : List Nat} (hua : Rd w ua n1) (hub : Rd w ub d1) (hva : Rd w va n2) (hvb : Rd w vb d2) (htab : Lib.TabIs Tryz.prog w "internal/strconv.uint64pow10" .u64 Lib.pow10Tab) (hZ : Tz w) :
    Calls Tryz.prog 6 #[.agg #[.bool sa, ua, ub], .agg #[.bool sb, va, vb]] w fun e w' => e = .returned (.bool true) ∧ Kp w w' := by
  by_cases hl1 : n1.length ≤ 16 ∧ d1.length ≤ 16
  rotate_left
  · exact compares_no1 hua hub hva hvb hl1 htab hZ
  by_cases hl2 : n2.length ≤ 16 ∧ d2.length ≤ 16
  rotate_left
  · exact compares_no2 hua hub hva hvb hl1 hl2 htab hZ
  exact compares_yes hua hub hva hvb ⟨hl1, hl2⟩ htab hZ
end Go.Proofs.YtmnnnoeenfmckaaGreatDoor
