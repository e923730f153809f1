/-
  brepkernellaw02.RationalFloors: by the contracts.
-/
import Derived.Test.YtmnnnoeenfmckaaGreatDoorReg
import Derived.Test.YtmnnnoeenfmckaaGreatDoorRw
import Derived.Test.YtmnnnoeenfmckaaGreatDoorBq
import Derived.Test.YtmnnnoeenfmckaaGreatDoorRatR
import Derived.Test.YtmnnnoeenfmckaaGreatDoorBs
import Derived.Test.YtmnnnoeenfmckaaGreatDoorBn
import Derived.Test.YtmnnnoeenfmckaaGreatDoorBo
import Derived.Test.YtmnnnoeenfmckaaGreatDoorBw
import Derived.Test.YtmnnnoeenfmckaaGreatDoorBp
import Derived.Test.YtmnnnoeenfmckaaGreatDoorBu
namespace Go.Proofs.YtmnnnoeenfmckaaGreatDoor
open Go.RowKit

set_option maxRecDepth 20000 in
set_option maxHeartbeats 4000000 in
theorem floors_no1 {w : World} {sa : Bool} {ua ub : Value} {n1 d1 : List Nat} (hua : Rd w ua n1) (hub : Rd w ub d1) (k : Int) (hn : ¬ (n1.length ≤ 16 ∧ d1.length ≤ 16)) (htab : Lib.TabIs Tryz.prog w "internal/strconv.uint64pow10" .u64 Lib.pow10Tab) (hZ : Tz w) :
    Calls Tryz.prog 11 #[.agg #[.bool sa, ua, ub], .int .u8 k] w fun e w' => e = .returned (.bool true) ∧ Kp w w' := by
  have HTB := Lib.hid (Lib.tabBelow_of_tabIs htab)
  have HZ := Lib.hid hZ
  have CAW := Lib.hid (fun w' (kk : Kp w w') (t : Tz w') => qawake_any w' t (tabKp HTB.out kk))
  have CL1 := Lib.hid (fun w' (kk : Kp w w') => qlight_no (s := sa) (hua.kp kk) (hub.kp kk) hn)
  obtain ⟨xo1, xl1, xc1, rfl⟩ := rd_slice hua
  obtain ⟨xo2, xl2, xc2, rfl⟩ := rd_slice hub
  have HT := Lib.hid (Rw1.new w (.bool sa) (.slice xo1 xl1 xc1) (.slice xo2 xl2 xc2))
  clear hua hub htab hZ hn
  go_enter Tryz.func11, Tryz.ntmps11
  have Z_e := Lib.hid (HZ.out.kp HT.out.k)
  obtain ⟨xz0, xz1, xz2⟩ := HT.out.ra.cells
  go_wp2_with (go_at_call 13; (with_reducible refine (CL1.out _ HT.out.k).mono ?_); rintro e w2 ⟨rfl, k2⟩; refine Hid.out ?_)
  refine Lib.hid ?_
  have T_2 := Lib.hid (HT.out.kp k2)
  have Z_2 := Lib.hid (Z_e.out.kp k2)
  clear HT Z_e
  clear k2
  obtain ⟨xz0, xz1, xz2⟩ := T_2.out.ra.cells
  go_wp2_with (go_at_call 14; (with_reducible refine (CAW.out _ T_2.out.k Z_2.out).mono ?_); rintro e w3 ⟨rfl, k3⟩; refine Hid.out ?_)
  refine Lib.hid ?_
  have T_3 := Lib.hid (T_2.out.kp k3)
  have Z_3 := Lib.hid (Z_2.out.kp k3)
  clear T_2 Z_2
  clear k3
  obtain ⟨xz0, xz1, xz2⟩ := T_3.out.ra.cells
  go_wp2
  go_ret
  exact ⟨rfl, T_3.out.k⟩

theorem down_abs (x : Rat) (k : Nat) : (downN x k).natAbs ≤ x.num.natAbs * 2 ^ k + 1 := by
  by_cases h : x.num < 0
  · rw [downN_neg h, Int.natAbs_neg, Int.natAbs_natCast]
    have := Nat.div_le_self (x.num.natAbs * 2 ^ k) x.den
    split <;> omega
  · rw [downN_pos h, Int.natAbs_natCast]
    have := Nat.div_le_self (x.num.natAbs * 2 ^ k) x.den
    omega
theorem rsz_down {x : Rat} {j : Nat} (h : RSz j x) {m : Nat} (hm : m < 64) : RSz (j + 4) (downR x m) := by
  unfold downR
  have h2 : Sz 2 (2 ^ m) := szq_pow2 (by omega)
  refine RSz.of_mkRat (Sz.le ?_ (down_abs x m)) (h2.mono (by omega)) (Nat.pos_iff_ne_zero.1 (Nat.two_pow_pos m))
  have h3 : Sz (j + 2) (x.num.natAbs * 2 ^ m) := h.1.mul h2
  exact Sz.mono (h3.plus (Sz.mono (length_toL_le 1 1 (by decide)) (by omega))) (by omega)
theorem rsz_up {x : Rat} {j : Nat} (h : RSz j x) {m : Nat} (hm : m < 64) : RSz (j + 4) (upR x m) := by
  unfold upR
  exact (rsz_down h.neg hm).neg
theorem scale_at {m : Nat} (h : m < 64) : scaleQ (m : Int) = m := by unfold scaleQ; omega
theorem bool_cmp {b c : Bool} (h : b = true ↔ c = true) : b = c := by cases b <;> cases c <;> simp_all
theorem le_cmp {x y : Rat} (h : x ≤ y) : cmpR x y ≤ 0 := by
  unfold cmpR
  split
  · decide
  · split
    · rename_i h1 h2; grind
    · decide

set_option maxRecDepth 20000 in
set_option maxHeartbeats 4000000 in
theorem floors_low {w : World} {sa : Bool} {ua ub : Value} {n1 d1 : List Nat} (hua : Rd w ua n1) (hub : Rd w ub d1) (k : Int) (m : Nat) (hm : m < 64) (hk1 : k.tmod 64 = (m : Int)) (hk2 : k % 64 = (m : Int)) (hk3 : 0 ≤ k ∧ k ≤ 255) (hl9 : m < 62) (hl : (n1.length ≤ 16 ∧ d1.length ≤ 16)) (htab : Lib.TabIs Tryz.prog w "internal/strconv.uint64pow10" .u64 Lib.pow10Tab) (hZ : Tz w) :
    Calls Tryz.prog 11 #[.agg #[.bool sa, ua, ub], .int .u8 k] w fun e w' => e = .returned (.bool true) ∧ Kp w w' := by
  have HTB := Lib.hid (Lib.tabBelow_of_tabIs htab)
  have HZ := Lib.hid hZ
  have CAW := Lib.hid (fun w' (kk : Kp w w') (t : Tz w') => qawake_any w' t (tabKp HTB.out kk))
  have hl1 := hl
  have CL1 := Lib.hid (fun w' (kk : Kp w w') => qlight_yes (s := sa) (hua.kp kk) (hub.kp kk) hl1)
  have CN1 := Lib.hid (fun w' (kk : Kp w w') => number_any (s := sa) (hua.kp kk) (hub.kp kk) hl1.1 hl1.2)
  have Sx : RSz 16 (numR sa n1 d1) := rsz_num hua hub hl1.1 hl1.2
  obtain ⟨Xx, hXx⟩ : ∃ X, X = (numR sa n1 d1) := ⟨_, rfl⟩
  rw [← hXx] at CN1 Sx
  clear hXx
  obtain ⟨xo1, xl1, xc1, rfl⟩ := rd_slice hua
  obtain ⟨xo2, xl2, xc2, rfl⟩ := rd_slice hub
  have HT := Lib.hid (Rw1.new w (.bool sa) (.slice xo1 xl1 xc1) (.slice xo2 xl2 xc2))
  obtain ⟨hk4, hk5⟩ := hk3
  have sm := scale_at hm
  have sz0 : scaleQ 0 = 0 := by decide
  obtain ⟨lo, hlo⟩ : ∃ q, q = downR Xx m := ⟨_, rfl⟩
  obtain ⟨hi, hhi⟩ : ∃ q, q = upR Xx m := ⟨_, rfl⟩
  have SL : RSz 20 lo := by rw [hlo]; exact rsz_down Sx hm
  have SH : RSz 20 hi := by rw [hhi]; exact rsz_up Sx hm
  have C1 := Lib.hid (fun w' a (ha : RatV w' a (Xx)) (t : Tz w') => qdown_any ha (m : Int) Sx (by omega) t)
  rw [sm, ← hlo] at C1
  have C2 := Lib.hid (fun w' a (ha : RatV w' a (Xx)) (t : Tz w') => qup_any ha (m : Int) Sx (by omega) t)
  rw [sm, ← hhi] at C2
  obtain ⟨r, hr⟩ : ∃ r, r = m % 62 := ⟨_, rfl⟩
  have hr62 : r < 62 := by omega
  have hm1 : (m : Int).tmod 62 = (r : Int) := by rw [Int.tmod_eq_emod_of_nonneg (by omega)]; omega
  have hm2 : (m : Int) % 62 = (r : Int) := by omega
  have hr1 : (r : Int) ≤ 64 := by omega
  have hr0 : (0 : Int) ≤ (r : Int) := by omega
  obtain ⟨p, hp⟩ : ∃ p : Nat, p = 2 ^ r := ⟨_, rfl⟩
  have hp1 : p ≤ 2 ^ 61 := by rw [hp]; exact Nat.pow_le_pow_right (by decide) (by omega)
  have hp0 : 0 < p := by rw [hp]; exact Nat.two_pow_pos r
  have hpi : (2 : Int) ^ r = (p : Int) := by rw [hp]; simp
  have w1 : IntKind.i64.wrap (1 * (2 : Int) ^ r) = (p : Int) := by rw [Int.one_mul, hpi]; exact IntWalk.i64_in _ (by omega)
  have w2 : IntKind.i64.wrap ((2 : Int) ^ r) = (p : Int) := by rw [hpi]; exact IntWalk.i64_in _ (by omega)
  have w3 : IntKind.i64.wrap (p : Int) = (p : Int) := IntWalk.i64_in _ (by omega)
  have hu : ratOf (decide ((1 : Int) < 0) != decide ((p : Int) < 0)) (1 : Int).natAbs (p : Int).natAbs = ratOf false 1 p := by rw [decide_eq_false (show ¬ (p : Int) < 0 by omega)]; rfl
  have SU : RSz 2 (ratOf false 1 p) := by unfold ratOf; exact RSz.of_mkRat (by rw [sg_natAbs]; exact Sz.mono (length_toL_le 1 1 (by decide)) (by omega)) (by rw [hp]; exact szq_pow2 (by omega)) (by omega)
  have CU := Lib.hid (fun w' (t : Tz w') => make_any 1 (p : Int) (by decide) (by decide) (by omega) (by omega) (by omega) w' t)
  rw [hu] at CU
  obtain ⟨un, hun⟩ : ∃ q, q = ratOf false 1 p := ⟨_, rfl⟩
  rw [← hun] at CU SU
  obtain ⟨cv, hcv⟩ : ∃ c : Int, c = cmpR (hi - lo) un := ⟨_, rfl⟩
  have hc0 : cv ≤ 0 := by rw [hcv, hun, hp, hr, show m % 62 = m by omega, hhi, hlo]; exact le_cmp (hi_lo Xx m)
  have hc1 : decide (0 < cv) = false := decide_eq_false (by omega)
  clear hc0
  have C3 := Lib.hid (fun w' a b (ha : RatV w' a (hi)) (hb : RatV w' b (lo)) (t : Tz w') => qsub_any ha hb SH SL (by omega) (by omega) t)
  have C4 := Lib.hid (fun w' a b (ha : RatV w' a ((hi - lo))) (hb : RatV w' b (un)) (t : Tz w') => qcmp_any ha hb (SH.sub SL) SU (by omega) (by omega) t)
  rw [← hcv] at C4
  obtain ⟨c1, hc1'⟩ : ∃ c : Int, c = cmpR lo Xx := ⟨_, rfl⟩
  have hd1 : decide (c1 ≤ 0) = true := decide_eq_true (by rw [hc1', hlo]; exact le_cmp (down_le Xx m))
  obtain ⟨c2, hc2'⟩ : ∃ c : Int, c = cmpR Xx hi := ⟨_, rfl⟩
  have hd2 : decide (c2 ≤ 0) = true := decide_eq_true (by rw [hc2', hhi]; exact le_cmp (up_ge Xx m))
  obtain ⟨bs, hbs⟩ : ∃ b : Bool, b = decide (lo = Xx) := ⟨_, rfl⟩
  have hbs2 : decide (hi = Xx) = bs := by rw [hbs]; refine bool_cmp ?_; rw [decide_eq_true_iff, decide_eq_true_iff, hhi, hlo]; exact (lo_hi Xx m).symm
  have C5 := Lib.hid (fun w' a b (ha : RatV w' a (lo)) (hb : RatV w' b (Xx)) (t : Tz w') => qcmp_any ha hb SL Sx (by omega) (by omega) t)
  rw [← hc1'] at C5
  have C6 := Lib.hid (fun w' a b (ha : RatV w' a (Xx)) (hb : RatV w' b (hi)) (t : Tz w') => qcmp_any ha hb Sx SH (by omega) (by omega) t)
  rw [← hc2'] at C6
  have C7 := Lib.hid (fun w' a b (ha : RatV w' a (lo)) (hb : RatV w' b (Xx)) => rsame_any ha hb)
  rw [← hbs] at C7
  have C8 := Lib.hid (fun w' a b (ha : RatV w' a (hi)) (hb : RatV w' b (Xx)) => rsame_any ha hb)
  rw [hbs2] at C8
  have C9 := Lib.hid (fun w' a (ha : RatV w' a (lo)) (t : Tz w') => qdown_any ha (m : Int) SL (by omega) t)
  rw [sm] at C9
  have C10 := Lib.hid (fun w' a b (ha : RatV w' a ((downR lo m))) (hb : RatV w' b (lo)) => by have h := rsame_any ha hb; rw [decide_eq_true (show ((downR lo m)) = (lo) from by rw [hlo]; exact down_down Xx m)] at h; exact h)
  have C11 := Lib.hid (fun w' a (ha : RatV w' a (Xx)) (t : Tz w') => qfloor_any ha Sx (by omega) t)
  have C12 := Lib.hid (fun w' a (ha : RatV w' a (Xx)) (t : Tz w') => qdown_any ha 0 Sx (by omega) t)
  rw [sz0] at C12
  have C13 := Lib.hid (fun w' a b (ha : RatV w' a ((Xx.floor : Rat))) (hb : RatV w' b ((downR Xx 0))) => by have h := rsame_any ha hb; rw [decide_eq_true (show ((Xx.floor : Rat)) = ((downR Xx 0)) from (down_zero Xx).symm)] at h; exact h)
  have hlt : decide ((m : Int) < 62) = true := decide_eq_true (by omega)
  clear hlo hhi hun hr hp hpi hu sm sz0 hbs hbs2 hc1' hc2' SL SH SU hp1 hp0 hr62 hm hl9 hcv
  clear hua hub hl1 Sx htab hZ
  go_enter Tryz.func11, Tryz.ntmps11
  have Z_e := Lib.hid (HZ.out.kp HT.out.k)
  obtain ⟨xz0, xz1, xz2⟩ := HT.out.ra.cells
  go_wp2_with (go_at_call 13; (with_reducible refine (CL1.out _ HT.out.k).mono ?_); rintro e w2 ⟨rfl, k2⟩; refine Hid.out ?_)
  refine Lib.hid ?_
  have T_2 := Lib.hid (HT.out.kp k2)
  have Z_2 := Lib.hid (Z_e.out.kp k2)
  clear HT Z_e
  clear k2
  obtain ⟨xz0, xz1, xz2⟩ := T_2.out.ra.cells
  go_wp2_with (go_at_call 24; (with_reducible refine (CN1.out _ T_2.out.k).mono ?_); rintro e w3 ⟨vx, rfl, hx, k3⟩; refine Hid.out ?_)
  refine Lib.hid ?_
  have T_3 := Lib.hid (T_2.out.kp k3)
  have Z_3 := Lib.hid (Z_2.out.kp k3)
  clear T_2 Z_2
  clear k3
  obtain ⟨xs, xq1, xr1, xs1, xq2, xr2, xs2, rfl⟩ := hx.lit
  have Vx_l := Lib.hid hx
  have Bx_l := Lib.hid (Res.new w3 (.bool xs) (.slice xq1 xr1 xs1) (.slice xq2 xr2 xs2))
  clear hx
  have T_4 := Lib.hid (T_3.out.kp (Kp.alloc _ (Obj.cells #[Value.bool xs, Value.slice xq1 xr1 xs1, Value.slice xq2 xr2 xs2] 27)))
  have Z_4 := Lib.hid (Z_3.out.kp (Kp.alloc _ (Obj.cells #[Value.bool xs, Value.slice xq1 xr1 xs1, Value.slice xq2 xr2 xs2] 27)))
  have Vx_4 := Lib.hid (Vx_l.out.kp (Kp.alloc _ (Obj.cells #[Value.bool xs, Value.slice xq1 xr1 xs1, Value.slice xq2 xr2 xs2] 27)))
  clear T_3 Z_3 Vx_l
  obtain ⟨xz0, xz1, xz2⟩ := T_4.out.ra.cells
  obtain ⟨xg0, xg1, xg2, _⟩ := Bx_l.out.cells
  go_upto_region 5 with fail
  have T_5 := Lib.hid (T_4.out.kp (Below.refl _ _).drew)
  have Z_5 := Lib.hid (Z_4.out.kp (Below.refl _ _).drew)
  have Vx_5 := Lib.hid (Vx_4.out.kp (Below.refl _ _).drew)
  have Bx_5 := Lib.hid (Bx_l.out.kp (Below.refl _ _).drew)
  clear T_4 Z_4 Vx_4 Bx_l
  obtain ⟨S, hS⟩ : ∃ S : Plan, S = ⟨[(0, .agg #[.bool xs, .slice xq1 xr1 xs1, .slice xq2 xr2 xs2]), (1, .int .i64 (m : Int)), (3, .agg #[.bool xs, .slice xq1 xr1 xs1, .slice xq2 xr2 xs2]), (4, .int .i64 (m : Int))], [(2, lo), (5, hi)], [], [⟨6, 8, 2⟩, ⟨7, 9, 5⟩]⟩ := ⟨_, rfl⟩
  have HS := Lib.hid hS
  clear hS
  refine' wp_region_inv (F := _) (by kernel_rfl) (by kernel_rfl) (by kernel_rfl) (PJ S _) (PJ.begin _ _ _) ?hF ?hsteps ?hend
  case hF => intro f; (try simp only [List.append]); simp only [putAll, Act.put, List.setIfInBounds_toArray, List.set_cons_zero, List.set_cons_succ, Nat.zero_add, Nat.reduceAdd]; exact rfl
  case hsteps =>
    refine StepsJ.cons ?_ ?_
    · intro b f w1 hb hw hJ K hK
      have HB := Lib.hid hb
      have HJ := Lib.hid hJ
      have HW := Lib.hid hw
      clear hJ hw hb
      try dsimp only
      rw [if_pos (by rfl)]
      obtain ⟨xg0, xg1, xg2, _⟩ := (Bx_5.out.kp HJ.out.k).cells
      go_simp
      exact hK.out _ (.agg #[.bool xs, .slice xq1 xr1 xs1, .slice xq2 xr2 xs2]) _ (by (try dsimp only) <;> simp only [Act.put, List.setIfInBounds_toArray, List.set_cons_zero, List.set_cons_succ]) (HJ.out.pureStep 0 _ HB.out (by rw [HS.out]; rfl) (by rw [HS.out]; rfl) (by rw [HS.out]; rfl) (by rw [HS.out]; rfl))
    refine StepsJ.cons ?_ ?_
    · intro b f w1 hb hw hJ K hK
      have HB := Lib.hid hb
      have HJ := Lib.hid hJ
      have HW := Lib.hid hw
      clear hJ hw hb
      try dsimp only
      rw [if_pos (by rfl)]
      go_simp
      exact hK.out _ (.int .i64 (m : Int)) _ (by (try dsimp only) <;> simp only [Act.put, List.setIfInBounds_toArray, List.set_cons_zero, List.set_cons_succ]) (HJ.out.pureStep 1 _ HB.out (by rw [HS.out]; rfl) (by rw [HS.out]; rfl) (by rw [HS.out]; rfl) (by rw [HS.out]; rfl))
    refine StepsJ.cons ?_ ?_
    · intro b f w1 hb hw hJ K hK
      have HB := Lib.hid hb
      have HJ := Lib.hid hJ
      have HW := Lib.hid hw
      clear hJ hw hb
      try dsimp only
      have e0 : f 0 = .agg #[.bool xs, .slice xq1 xr1 xs1, .slice xq2 xr2 xs2] := HJ.out.pure 0 _ (by rw [HS.out]; rfl) (HW.out 0 (by decide))
      have e1 : f 1 = .int .i64 (m : Int) := HJ.out.pure 1 _ (by rw [HS.out]; rfl) (HW.out 1 (by decide))
      simp only [e0, e1]
      rw [if_pos (by rfl)]
      go_simp
      go_at_call 50
      (with_reducible refine (C1.out _ _ (Vx_5.out.kp HJ.out.k) (Z_5.out.kp HJ.out.k)).mono ?_)
      rintro e w2 ⟨vr, rfl, hr, kk⟩
      exact hK.out _ vr _ (by (try dsimp only) <;> simp only [Act.put, List.setIfInBounds_toArray, List.set_cons_zero, List.set_cons_succ, e0, e1]) (HJ.out.callStep 2 vr _ HB.out kk hr (by rw [HS.out]; rfl) (by rw [HS.out]; rfl) (by rw [HS.out]; rfl) (by rw [HS.out]; rfl))
    refine StepsJ.cons ?_ ?_
    · intro b f w1 hb hw hJ K hK
      have HB := Lib.hid hb
      have HJ := Lib.hid hJ
      have HW := Lib.hid hw
      clear hJ hw hb
      try dsimp only
      rw [if_pos (by rfl)]
      obtain ⟨xg0, xg1, xg2, _⟩ := (Bx_5.out.kp HJ.out.k).cells
      go_simp
      exact hK.out _ (.agg #[.bool xs, .slice xq1 xr1 xs1, .slice xq2 xr2 xs2]) _ (by (try dsimp only) <;> simp only [Act.put, List.setIfInBounds_toArray, List.set_cons_zero, List.set_cons_succ]) (HJ.out.pureStep 3 _ HB.out (by rw [HS.out]; rfl) (by rw [HS.out]; rfl) (by rw [HS.out]; rfl) (by rw [HS.out]; rfl))
    refine StepsJ.cons ?_ ?_
    · intro b f w1 hb hw hJ K hK
      have HB := Lib.hid hb
      have HJ := Lib.hid hJ
      have HW := Lib.hid hw
      clear hJ hw hb
      try dsimp only
      rw [if_pos (by rfl)]
      go_simp
      exact hK.out _ (.int .i64 (m : Int)) _ (by (try dsimp only) <;> simp only [Act.put, List.setIfInBounds_toArray, List.set_cons_zero, List.set_cons_succ]) (HJ.out.pureStep 4 _ HB.out (by rw [HS.out]; rfl) (by rw [HS.out]; rfl) (by rw [HS.out]; rfl) (by rw [HS.out]; rfl))
    refine StepsJ.cons ?_ ?_
    · intro b f w1 hb hw hJ K hK
      have HB := Lib.hid hb
      have HJ := Lib.hid hJ
      have HW := Lib.hid hw
      clear hJ hw hb
      try dsimp only
      have e3 : f 3 = .agg #[.bool xs, .slice xq1 xr1 xs1, .slice xq2 xr2 xs2] := HJ.out.pure 3 _ (by rw [HS.out]; rfl) (HW.out 3 (by decide))
      have e4 : f 4 = .int .i64 (m : Int) := HJ.out.pure 4 _ (by rw [HS.out]; rfl) (HW.out 4 (by decide))
      simp only [e3, e4]
      rw [if_pos (by rfl)]
      go_simp
      go_at_call 52
      (with_reducible refine (C2.out _ _ (Vx_5.out.kp HJ.out.k) (Z_5.out.kp HJ.out.k)).mono ?_)
      rintro e w2 ⟨vr, rfl, hr, kk⟩
      exact hK.out _ vr _ (by (try dsimp only) <;> simp only [Act.put, List.setIfInBounds_toArray, List.set_cons_zero, List.set_cons_succ, e3, e4]) (HJ.out.callStep 5 vr _ HB.out kk hr (by rw [HS.out]; rfl) (by rw [HS.out]; rfl) (by rw [HS.out]; rfl) (by rw [HS.out]; rfl))
    refine StepsJ.cons ?_ ?_
    · intro b f w1 hb hw hJ K hK
      have HB := Lib.hid hb
      have HJ := Lib.hid hJ
      have HW := Lib.hid hw
      clear hJ hw hb
      try dsimp only
      rw [if_pos (by rfl)]
      go_simp
      exact hK.out _ _ _ (by (try dsimp only) <;> simp only [Act.put, List.setIfInBounds_toArray, List.set_cons_zero, List.set_cons_succ]) (HJ.out.allocStep 6 HB.out (by rw [HS.out]; rfl) (by rw [HS.out]; rfl) (by rw [HS.out]; rfl) (by rw [HS.out]; rfl))
    refine StepsJ.cons ?_ ?_
    · intro b f w1 hb hw hJ K hK
      have HB := Lib.hid hb
      have HJ := Lib.hid hJ
      have HW := Lib.hid hw
      clear hJ hw hb
      try dsimp only
      rw [if_pos (by rfl)]
      go_simp
      exact hK.out _ _ _ (by (try dsimp only) <;> simp only [Act.put, List.setIfInBounds_toArray, List.set_cons_zero, List.set_cons_succ]) (HJ.out.allocStep 7 HB.out (by rw [HS.out]; rfl) (by rw [HS.out]; rfl) (by rw [HS.out]; rfl) (by rw [HS.out]; rfl))
    refine StepsJ.cons ?_ ?_
    · intro b f w1 hb hw hJ K hK
      have HB := Lib.hid hb
      have HJ := Lib.hid hJ
      have HW := Lib.hid hw
      clear hJ hw hb
      try dsimp only
      rw [if_pos (by rfl)]
      obtain ⟨g, s, o1, l1, c1, o2, l2, c2, h1, h2, hr, hn⟩ := HJ.out.storeStep ⟨6, 8, 2⟩ (by rw [HS.out]; simp) (lo) (by rw [HS.out]; rfl) 8 rfl HB.out (HW.out 6 (by decide)) (HW.out 2 (by decide)) (by rw [HS.out]; rfl) (by rw [HS.out]; rfl) (by rw [HS.out]; rfl) (by rw [HS.out]; simp)
      have HN := Lib.hid hn
      obtain ⟨d0, d1, d2, f0, f1, f2⟩ := hr.cells
      clear hn hr
      simp only at h1 h2
      simp only [h1, h2]
      go_simp
      exact hK.out _ undef _ (by (try dsimp only) <;> simp only [Act.put, h1, h2]) (HN.out undef)
    refine StepsJ.cons ?_ ?_
    · intro b f w1 hb hw hJ K hK
      have HB := Lib.hid hb
      have HJ := Lib.hid hJ
      have HW := Lib.hid hw
      clear hJ hw hb
      try dsimp only
      rw [if_pos (by rfl)]
      obtain ⟨g, s, o1, l1, c1, o2, l2, c2, h1, h2, hr, hn⟩ := HJ.out.storeStep ⟨7, 9, 5⟩ (by rw [HS.out]; simp) (hi) (by rw [HS.out]; rfl) 9 rfl HB.out (HW.out 7 (by decide)) (HW.out 5 (by decide)) (by rw [HS.out]; rfl) (by rw [HS.out]; rfl) (by rw [HS.out]; rfl) (by rw [HS.out]; simp)
      have HN := Lib.hid hn
      obtain ⟨d0, d1, d2, f0, f1, f2⟩ := hr.cells
      clear hn hr
      simp only at h1 h2
      simp only [h1, h2]
      go_simp
      exact hK.out _ undef _ (by (try dsimp only) <;> simp only [Act.put, h1, h2]) (HN.out undef)
    exact StepsJ.nil
  case hend =>
    intro b f w6 hb hJ
    try dsimp only
    obtain ⟨gl, ls, lq1, lr1, ls1, lq2, lr2, ls2, el, hrl, hl⟩ := hJ.all ⟨6, 8, 2⟩ (by rw [HS.out]; simp) (lo) (by rw [HS.out]; rfl) (hb 6 (by decide)) (hb 2 (by decide)) (hb 8 (by decide))
    obtain ⟨gh, hs, hq1, hr1, hs1, hq2, hr2, hs2, eh, hrh, hh⟩ := hJ.all ⟨7, 9, 5⟩ (by rw [HS.out]; simp) (hi) (by rw [HS.out]; rfl) (hb 7 (by decide)) (hb 5 (by decide)) (hb 9 (by decide))
    simp only at el eh
    have kk := hJ.k
    clear hJ hb
    have T_6 := Lib.hid (T_5.out.kp kk)
    have Z_6 := Lib.hid (Z_5.out.kp kk)
    have Vx_6 := Lib.hid (Vx_5.out.kp kk)
    have Bx_6 := Lib.hid (Bx_5.out.kp kk)
    clear kk T_5 Z_5 Vx_5 Bx_5
    have Vl_6 := Lib.hid hl
    have Bl_6 := Lib.hid hrl
    clear hl hrl
    have Vh_6 := Lib.hid hh
    have Bh_6 := Lib.hid hrh
    clear hh hrh
    simp only [el, eh]
    clear el eh
    generalize f 0 = ya0
    generalize f 1 = ya1
    generalize f 2 = ya2
    generalize f 3 = ya3
    generalize f 4 = ya4
    generalize f 5 = ya5
    clear HS S f b
    obtain ⟨xz0, xz1, xz2⟩ := T_6.out.ra.cells
    obtain ⟨xg0, xg1, xg2, _⟩ := Bx_6.out.cells
    obtain ⟨lg0, lg1, lg2, _⟩ := Bl_6.out.cells
    obtain ⟨hg0, hg1, hg2, _⟩ := Bh_6.out.cells
    go_wp2_with (go_at_call 20; (with_reducible refine (CU.out _ Z_6.out).mono ?_); rintro e w7 ⟨vq, rfl, hq, k7⟩; refine Hid.out ?_)
    refine Lib.hid ?_
    have T_7 := Lib.hid (T_6.out.kp k7)
    have Z_7 := Lib.hid (Z_6.out.kp k7)
    have Vx_7 := Lib.hid (Vx_6.out.kp k7)
    have Bx_7 := Lib.hid (Bx_6.out.kp k7)
    have Vl_7 := Lib.hid (Vl_6.out.kp k7)
    have Bl_7 := Lib.hid (Bl_6.out.kp k7)
    have Vh_7 := Lib.hid (Vh_6.out.kp k7)
    have Bh_7 := Lib.hid (Bh_6.out.kp k7)
    clear T_6 Z_6 Vx_6 Bx_6 Vl_6 Bl_6 Vh_6 Bh_6
    clear k7
    obtain ⟨qs, qq1, qr1, qs1, qq2, qr2, qs2, rfl⟩ := hq.lit
    have Vq_l := Lib.hid hq
    have Bq_l := Lib.hid (Res.new w7 (.bool qs) (.slice qq1 qr1 qs1) (.slice qq2 qr2 qs2))
    clear hq
    have T_8 := Lib.hid (T_7.out.kp (Kp.alloc _ (Obj.cells #[Value.bool qs, Value.slice qq1 qr1 qs1, Value.slice qq2 qr2 qs2] 27)))
    have Z_8 := Lib.hid (Z_7.out.kp (Kp.alloc _ (Obj.cells #[Value.bool qs, Value.slice qq1 qr1 qs1, Value.slice qq2 qr2 qs2] 27)))
    have Vx_8 := Lib.hid (Vx_7.out.kp (Kp.alloc _ (Obj.cells #[Value.bool qs, Value.slice qq1 qr1 qs1, Value.slice qq2 qr2 qs2] 27)))
    have Bx_8 := Lib.hid (Bx_7.out.kp (Kp.alloc _ (Obj.cells #[Value.bool qs, Value.slice qq1 qr1 qs1, Value.slice qq2 qr2 qs2] 27)))
    have Vl_8 := Lib.hid (Vl_7.out.kp (Kp.alloc _ (Obj.cells #[Value.bool qs, Value.slice qq1 qr1 qs1, Value.slice qq2 qr2 qs2] 27)))
    have Bl_8 := Lib.hid (Bl_7.out.kp (Kp.alloc _ (Obj.cells #[Value.bool qs, Value.slice qq1 qr1 qs1, Value.slice qq2 qr2 qs2] 27)))
    have Vh_8 := Lib.hid (Vh_7.out.kp (Kp.alloc _ (Obj.cells #[Value.bool qs, Value.slice qq1 qr1 qs1, Value.slice qq2 qr2 qs2] 27)))
    have Bh_8 := Lib.hid (Bh_7.out.kp (Kp.alloc _ (Obj.cells #[Value.bool qs, Value.slice qq1 qr1 qs1, Value.slice qq2 qr2 qs2] 27)))
    have Vq_8 := Lib.hid (Vq_l.out.kp (Kp.alloc _ (Obj.cells #[Value.bool qs, Value.slice qq1 qr1 qs1, Value.slice qq2 qr2 qs2] 27)))
    clear T_7 Z_7 Vx_7 Bx_7 Vl_7 Bl_7 Vh_7 Bh_7 Vq_l
    obtain ⟨xz0, xz1, xz2⟩ := T_8.out.ra.cells
    obtain ⟨xg0, xg1, xg2, _⟩ := Bx_8.out.cells
    obtain ⟨lg0, lg1, lg2, _⟩ := Bl_8.out.cells
    obtain ⟨hg0, hg1, hg2, _⟩ := Bh_8.out.cells
    obtain ⟨qg0, qg1, qg2, _⟩ := Bq_l.out.cells
    go_upto_region 7 with fail
    have T_9 := Lib.hid (T_8.out.kp (Below.refl _ _).drew)
    have Z_9 := Lib.hid (Z_8.out.kp (Below.refl _ _).drew)
    have Vx_9 := Lib.hid (Vx_8.out.kp (Below.refl _ _).drew)
    have Bx_9 := Lib.hid (Bx_8.out.kp (Below.refl _ _).drew)
    have Vl_9 := Lib.hid (Vl_8.out.kp (Below.refl _ _).drew)
    have Bl_9 := Lib.hid (Bl_8.out.kp (Below.refl _ _).drew)
    have Vh_9 := Lib.hid (Vh_8.out.kp (Below.refl _ _).drew)
    have Bh_9 := Lib.hid (Bh_8.out.kp (Below.refl _ _).drew)
    have Vq_9 := Lib.hid (Vq_8.out.kp (Below.refl _ _).drew)
    have Bq_9 := Lib.hid (Bq_l.out.kp (Below.refl _ _).drew)
    clear T_8 Z_8 Vx_8 Bx_8 Vl_8 Bl_8 Vh_8 Bh_8 Vq_8 Bq_l
    obtain ⟨S, hS⟩ : ∃ S : Plan, S = ⟨[(0, .int .i64 (m : Int)), (1, .bool true), (2, .bool true), (3, .agg #[.bool hs, .slice hq1 hr1 hs1, .slice hq2 hr2 hs2]), (4, .agg #[.bool ls, .slice lq1 lr1 ls1, .slice lq2 lr2 ls2]), (6, .agg #[.bool qs, .slice qq1 qr1 qs1, .slice qq2 qr2 qs2]), (7, .int .i64 cv), (8, .bool false), (9, .bool false)], [(5, (hi - lo))], [], []⟩ := ⟨_, rfl⟩
    have HS := Lib.hid hS
    clear hS
    refine' wp_region_inv (F := _) (by kernel_rfl) (by kernel_rfl) (by kernel_rfl) (PJ S _) (PJ.begin _ _ _) ?hF ?hsteps ?hend
    case hF => intro f; (try simp only [List.append]); simp only [putAll, Act.put, List.setIfInBounds_toArray, List.set_cons_zero, List.set_cons_succ, Nat.zero_add, Nat.reduceAdd]; exact rfl
    case hsteps =>
      refine StepsJ.cons ?_ ?_
      · intro b f w1 hb hw hJ K hK
        have HB := Lib.hid hb
        have HJ := Lib.hid hJ
        have HW := Lib.hid hw
        clear hJ hw hb
        try dsimp only
        rw [if_pos (by rfl)]
        go_simp
        exact hK.out _ (.int .i64 (m : Int)) _ (by (try dsimp only) <;> simp only [Act.put, List.setIfInBounds_toArray, List.set_cons_zero, List.set_cons_succ]) (HJ.out.pureStep 0 _ HB.out (by rw [HS.out]; rfl) (by rw [HS.out]; rfl) (by rw [HS.out]; rfl) (by rw [HS.out]; rfl))
      refine StepsJ.cons ?_ ?_
      · intro b f w1 hb hw hJ K hK
        have HB := Lib.hid hb
        have HJ := Lib.hid hJ
        have HW := Lib.hid hw
        clear hJ hw hb
        try dsimp only
        have e0 : f 0 = .int .i64 (m : Int) := HJ.out.pure 0 _ (by rw [HS.out]; rfl) (HW.out 0 (by decide))
        simp only [e0]
        rw [if_pos (by rfl)]
        go_simp
        exact hK.out _ (.bool true) _ (by (try dsimp only) <;> simp only [Act.put, List.setIfInBounds_toArray, List.set_cons_zero, List.set_cons_succ, e0]) (HJ.out.pureStep 1 _ HB.out (by rw [HS.out]; rfl) (by rw [HS.out]; rfl) (by rw [HS.out]; rfl) (by rw [HS.out]; rfl))
      refine StepsJ.cons ?_ ?_
      · intro b f w1 hb hw hJ K hK
        have HB := Lib.hid hb
        have HJ := Lib.hid hJ
        have HW := Lib.hid hw
        clear hJ hw hb
        try dsimp only
        have e1 : f 1 = .bool true := HJ.out.pure 1 _ (by rw [HS.out]; rfl) (HW.out 1 (by decide))
        simp only [e1]
        rw [if_pos (by rfl)]
        go_simp
        exact hK.out _ (.bool true) _ (by (try dsimp only) <;> simp only [Act.put, List.setIfInBounds_toArray, List.set_cons_zero, List.set_cons_succ, e1]) (HJ.out.pureStep 2 _ HB.out (by rw [HS.out]; rfl) (by rw [HS.out]; rfl) (by rw [HS.out]; rfl) (by rw [HS.out]; rfl))
      refine StepsJ.cons ?_ ?_
      · intro b f w1 hb hw hJ K hK
        have HB := Lib.hid hb
        have HJ := Lib.hid hJ
        have HW := Lib.hid hw
        clear hJ hw hb
        try dsimp only
        have e2 : f 2 = .bool true := HJ.out.pure 2 _ (by rw [HS.out]; rfl) (HW.out 2 (by decide))
        simp only [e2]
        rw [if_pos (by rfl)]
        obtain ⟨hg0, hg1, hg2, _⟩ := (Bh_9.out.kp HJ.out.k).cells
        go_simp
        exact hK.out _ (.agg #[.bool hs, .slice hq1 hr1 hs1, .slice hq2 hr2 hs2]) _ (by (try dsimp only) <;> simp only [Act.put, List.setIfInBounds_toArray, List.set_cons_zero, List.set_cons_succ, e2]) (HJ.out.pureStep 3 _ HB.out (by rw [HS.out]; rfl) (by rw [HS.out]; rfl) (by rw [HS.out]; rfl) (by rw [HS.out]; rfl))
      refine StepsJ.cons ?_ ?_
      · intro b f w1 hb hw hJ K hK
        have HB := Lib.hid hb
        have HJ := Lib.hid hJ
        have HW := Lib.hid hw
        clear hJ hw hb
        try dsimp only
        have e2 : f 2 = .bool true := HJ.out.pure 2 _ (by rw [HS.out]; rfl) (HW.out 2 (by decide))
        simp only [e2]
        rw [if_pos (by rfl)]
        obtain ⟨lg0, lg1, lg2, _⟩ := (Bl_9.out.kp HJ.out.k).cells
        go_simp
        exact hK.out _ (.agg #[.bool ls, .slice lq1 lr1 ls1, .slice lq2 lr2 ls2]) _ (by (try dsimp only) <;> simp only [Act.put, List.setIfInBounds_toArray, List.set_cons_zero, List.set_cons_succ, e2]) (HJ.out.pureStep 4 _ HB.out (by rw [HS.out]; rfl) (by rw [HS.out]; rfl) (by rw [HS.out]; rfl) (by rw [HS.out]; rfl))
      refine StepsJ.cons ?_ ?_
      · intro b f w1 hb hw hJ K hK
        have HB := Lib.hid hb
        have HJ := Lib.hid hJ
        have HW := Lib.hid hw
        clear hJ hw hb
        try dsimp only
        have e2 : f 2 = .bool true := HJ.out.pure 2 _ (by rw [HS.out]; rfl) (HW.out 2 (by decide))
        have e3 : f 3 = .agg #[.bool hs, .slice hq1 hr1 hs1, .slice hq2 hr2 hs2] := HJ.out.pure 3 _ (by rw [HS.out]; rfl) (HW.out 3 (by decide))
        have e4 : f 4 = .agg #[.bool ls, .slice lq1 lr1 ls1, .slice lq2 lr2 ls2] := HJ.out.pure 4 _ (by rw [HS.out]; rfl) (HW.out 4 (by decide))
        simp only [e2, e3, e4]
        rw [if_pos (by rfl)]
        go_simp
        go_at_call 29
        (with_reducible refine (C3.out _ _ _ (Vh_9.out.kp HJ.out.k) (Vl_9.out.kp HJ.out.k) (Z_9.out.kp HJ.out.k)).mono ?_)
        rintro e w2 ⟨vr, rfl, hr, kk⟩
        exact hK.out _ vr _ (by (try dsimp only) <;> simp only [Act.put, List.setIfInBounds_toArray, List.set_cons_zero, List.set_cons_succ, e2, e3, e4]) (HJ.out.callStep 5 vr _ HB.out kk hr (by rw [HS.out]; rfl) (by rw [HS.out]; rfl) (by rw [HS.out]; rfl) (by rw [HS.out]; rfl))
      refine StepsJ.cons ?_ ?_
      · intro b f w1 hb hw hJ K hK
        have HB := Lib.hid hb
        have HJ := Lib.hid hJ
        have HW := Lib.hid hw
        clear hJ hw hb
        try dsimp only
        have e2 : f 2 = .bool true := HJ.out.pure 2 _ (by rw [HS.out]; rfl) (HW.out 2 (by decide))
        simp only [e2]
        rw [if_pos (by rfl)]
        obtain ⟨qg0, qg1, qg2, _⟩ := (Bq_9.out.kp HJ.out.k).cells
        go_simp
        exact hK.out _ (.agg #[.bool qs, .slice qq1 qr1 qs1, .slice qq2 qr2 qs2]) _ (by (try dsimp only) <;> simp only [Act.put, List.setIfInBounds_toArray, List.set_cons_zero, List.set_cons_succ, e2]) (HJ.out.pureStep 6 _ HB.out (by rw [HS.out]; rfl) (by rw [HS.out]; rfl) (by rw [HS.out]; rfl) (by rw [HS.out]; rfl))
      refine StepsJ.cons ?_ ?_
      · intro b f w1 hb hw hJ K hK
        have HB := Lib.hid hb
        have HJ := Lib.hid hJ
        have HW := Lib.hid hw
        clear hJ hw hb
        try dsimp only
        have e2 : f 2 = .bool true := HJ.out.pure 2 _ (by rw [HS.out]; rfl) (HW.out 2 (by decide))
        have e6 : f 6 = .agg #[.bool qs, .slice qq1 qr1 qs1, .slice qq2 qr2 qs2] := HJ.out.pure 6 _ (by rw [HS.out]; rfl) (HW.out 6 (by decide))
        simp only [e2, e6]
        rw [if_pos (by rfl)]
        have a5 := HJ.out.call 5 _ (by rw [HS.out]; rfl) (HW.out 5 (by decide))
        have Ha5 := Lib.hid a5
        clear a5
        go_simp
        go_at_call 34
        (with_reducible refine (C4.out _ _ _ Ha5.out (Vq_9.out.kp HJ.out.k) (Z_9.out.kp HJ.out.k)).mono ?_)
        rintro e w2 ⟨rfl, kk⟩
        exact hK.out _ (.int .i64 cv) _ (by (try dsimp only) <;> simp only [Act.put, List.setIfInBounds_toArray, List.set_cons_zero, List.set_cons_succ, e2, e6]) ((HJ.out.later kk).pureStep 7 _ HB.out (by rw [HS.out]; rfl) (by rw [HS.out]; rfl) (by rw [HS.out]; rfl) (by rw [HS.out]; rfl))
      refine StepsJ.cons ?_ ?_
      · intro b f w1 hb hw hJ K hK
        have HB := Lib.hid hb
        have HJ := Lib.hid hJ
        have HW := Lib.hid hw
        clear hJ hw hb
        try dsimp only
        have e2 : f 2 = .bool true := HJ.out.pure 2 _ (by rw [HS.out]; rfl) (HW.out 2 (by decide))
        have e7 : f 7 = .int .i64 cv := HJ.out.pure 7 _ (by rw [HS.out]; rfl) (HW.out 7 (by decide))
        simp only [e2, e7]
        rw [if_pos (by rfl)]
        go_simp
        exact hK.out _ (.bool false) _ (by (try dsimp only) <;> simp only [Act.put, List.setIfInBounds_toArray, List.set_cons_zero, List.set_cons_succ, e2, e7]) (HJ.out.pureStep 8 _ HB.out (by rw [HS.out]; rfl) (by rw [HS.out]; rfl) (by rw [HS.out]; rfl) (by rw [HS.out]; rfl))
      refine StepsJ.cons ?_ ?_
      · intro b f w1 hb hw hJ K hK
        have HB := Lib.hid hb
        have HJ := Lib.hid hJ
        have HW := Lib.hid hw
        clear hJ hw hb
        try dsimp only
        have e2 : f 2 = .bool true := HJ.out.pure 2 _ (by rw [HS.out]; rfl) (HW.out 2 (by decide))
        have e8 : f 8 = .bool false := HJ.out.pure 8 _ (by rw [HS.out]; rfl) (HW.out 8 (by decide))
        simp only [e2, e8]
        rw [if_pos (by rfl)]
        go_simp
        exact hK.out _ (.bool false) _ (by (try dsimp only) <;> simp only [Act.put, List.setIfInBounds_toArray, List.set_cons_zero, List.set_cons_succ, e2, e8]) (HJ.out.pureStep 9 _ HB.out (by rw [HS.out]; rfl) (by rw [HS.out]; rfl) (by rw [HS.out]; rfl) (by rw [HS.out]; rfl))
      exact StepsJ.nil
    case hend =>
      intro b f w10 hb hJ
      try dsimp only
      have e9 : f 9 = .bool false := hJ.pure 9 _ (by rw [HS.out]; rfl) (hb 9 (by decide))
      have kk := hJ.k
      clear hJ hb
      have T_10 := Lib.hid (T_9.out.kp kk)
      have Z_10 := Lib.hid (Z_9.out.kp kk)
      have Vx_10 := Lib.hid (Vx_9.out.kp kk)
      have Bx_10 := Lib.hid (Bx_9.out.kp kk)
      have Vl_10 := Lib.hid (Vl_9.out.kp kk)
      have Bl_10 := Lib.hid (Bl_9.out.kp kk)
      have Vh_10 := Lib.hid (Vh_9.out.kp kk)
      have Bh_10 := Lib.hid (Bh_9.out.kp kk)
      have Vq_10 := Lib.hid (Vq_9.out.kp kk)
      have Bq_10 := Lib.hid (Bq_9.out.kp kk)
      clear kk T_9 Z_9 Vx_9 Bx_9 Vl_9 Bl_9 Vh_9 Bh_9 Vq_9 Bq_9
      simp only [e9]
      clear e9
      generalize f 0 = yb0
      generalize f 1 = yb1
      generalize f 2 = yb2
      generalize f 3 = yb3
      generalize f 4 = yb4
      generalize f 5 = yb5
      generalize f 6 = yb6
      generalize f 7 = yb7
      generalize f 8 = yb8
      clear HS S f b
      obtain ⟨xz0, xz1, xz2⟩ := T_10.out.ra.cells
      obtain ⟨xg0, xg1, xg2, _⟩ := Bx_10.out.cells
      obtain ⟨lg0, lg1, lg2, _⟩ := Bl_10.out.cells
      obtain ⟨hg0, hg1, hg2, _⟩ := Bh_10.out.cells
      obtain ⟨qg0, qg1, qg2, _⟩ := Bq_10.out.cells
      go_upto_region 9 with fail
      have T_11 := Lib.hid (T_10.out.kp (Below.refl _ _).drew)
      have Z_11 := Lib.hid (Z_10.out.kp (Below.refl _ _).drew)
      have Vx_11 := Lib.hid (Vx_10.out.kp (Below.refl _ _).drew)
      have Bx_11 := Lib.hid (Bx_10.out.kp (Below.refl _ _).drew)
      have Vl_11 := Lib.hid (Vl_10.out.kp (Below.refl _ _).drew)
      have Bl_11 := Lib.hid (Bl_10.out.kp (Below.refl _ _).drew)
      have Vh_11 := Lib.hid (Vh_10.out.kp (Below.refl _ _).drew)
      have Bh_11 := Lib.hid (Bh_10.out.kp (Below.refl _ _).drew)
      have Vq_11 := Lib.hid (Vq_10.out.kp (Below.refl _ _).drew)
      have Bq_11 := Lib.hid (Bq_10.out.kp (Below.refl _ _).drew)
      clear T_10 Z_10 Vx_10 Bx_10 Vl_10 Bl_10 Vh_10 Bh_10 Vq_10 Bq_10
      obtain ⟨S, hS⟩ : ∃ S : Plan, S = ⟨[(0, .agg #[.bool ls, .slice lq1 lr1 ls1, .slice lq2 lr2 ls2]), (1, .agg #[.bool xs, .slice xq1 xr1 xs1, .slice xq2 xr2 xs2]), (2, .int .i64 c1), (3, .bool true), (4, .bool true), (5, .agg #[.bool xs, .slice xq1 xr1 xs1, .slice xq2 xr2 xs2]), (6, .agg #[.bool hs, .slice hq1 hr1 hs1, .slice hq2 hr2 hs2]), (7, .int .i64 c2), (8, .bool true), (9, .bool true), (10, .bool true), (11, .agg #[.bool ls, .slice lq1 lr1 ls1, .slice lq2 lr2 ls2]), (12, .agg #[.bool xs, .slice xq1 xr1 xs1, .slice xq2 xr2 xs2]), (13, .bool bs), (14, .agg #[.bool hs, .slice hq1 hr1 hs1, .slice hq2 hr2 hs2]), (15, .agg #[.bool xs, .slice xq1 xr1 xs1, .slice xq2 xr2 xs2]), (16, .bool bs), (17, .bool true), (18, .bool true), (19, .bool true), (20, .agg #[.bool ls, .slice lq1 lr1 ls1, .slice lq2 lr2 ls2]), (21, .int .i64 (m : Int)), (23, .agg #[.bool ls, .slice lq1 lr1 ls1, .slice lq2 lr2 ls2]), (24, .bool true), (25, .bool true), (26, .bool true), (27, .agg #[.bool xs, .slice xq1 xr1 xs1, .slice xq2 xr2 xs2]), (29, .agg #[.bool xs, .slice xq1 xr1 xs1, .slice xq2 xr2 xs2]), (31, .bool true), (32, .bool true), (33, .bool true), (34, .bool true), (35, .bool true), (36, .bool true)], [(22, (downR lo m)), (28, (Xx.floor : Rat)), (30, (downR Xx 0))], [], []⟩ := ⟨_, rfl⟩
      have HS := Lib.hid hS
      clear hS
      refine' wp_region_inv (F := _) (by kernel_rfl) (by kernel_rfl) (by kernel_rfl) (PJ S _) (PJ.begin _ _ _) ?hF ?hsteps ?hend
      case hF => intro f; (try simp only [List.append]); simp only [putAll, Act.put, List.setIfInBounds_toArray, List.set_cons_zero, List.set_cons_succ, Nat.zero_add, Nat.reduceAdd]; exact rfl
      case hsteps =>
        try simp only [List.append]
        refine StepsJ.cons ?_ ?_
        · intro b f w1 hb hw hJ K hK
          have HB := Lib.hid hb
          have HJ := Lib.hid hJ
          have HW := Lib.hid hw
          clear hJ hw hb
          try dsimp only
          rw [if_pos (by rfl)]
          obtain ⟨lg0, lg1, lg2, _⟩ := (Bl_11.out.kp HJ.out.k).cells
          go_simp
          exact hK.out _ (.agg #[.bool ls, .slice lq1 lr1 ls1, .slice lq2 lr2 ls2]) _ (by (try dsimp only) <;> simp only [Act.put, List.setIfInBounds_toArray, List.set_cons_zero, List.set_cons_succ]) (HJ.out.pureStep 0 _ HB.out (by rw [HS.out]; rfl) (by rw [HS.out]; rfl) (by rw [HS.out]; rfl) (by rw [HS.out]; rfl))
        refine StepsJ.cons ?_ ?_
        · intro b f w1 hb hw hJ K hK
          have HB := Lib.hid hb
          have HJ := Lib.hid hJ
          have HW := Lib.hid hw
          clear hJ hw hb
          try dsimp only
          rw [if_pos (by rfl)]
          obtain ⟨xg0, xg1, xg2, _⟩ := (Bx_11.out.kp HJ.out.k).cells
          go_simp
          exact hK.out _ (.agg #[.bool xs, .slice xq1 xr1 xs1, .slice xq2 xr2 xs2]) _ (by (try dsimp only) <;> simp only [Act.put, List.setIfInBounds_toArray, List.set_cons_zero, List.set_cons_succ]) (HJ.out.pureStep 1 _ HB.out (by rw [HS.out]; rfl) (by rw [HS.out]; rfl) (by rw [HS.out]; rfl) (by rw [HS.out]; rfl))
        refine StepsJ.cons ?_ ?_
        · intro b f w1 hb hw hJ K hK
          have HB := Lib.hid hb
          have HJ := Lib.hid hJ
          have HW := Lib.hid hw
          clear hJ hw hb
          try dsimp only
          have e0 : f 0 = .agg #[.bool ls, .slice lq1 lr1 ls1, .slice lq2 lr2 ls2] := HJ.out.pure 0 _ (by rw [HS.out]; rfl) (HW.out 0 (by decide))
          have e1 : f 1 = .agg #[.bool xs, .slice xq1 xr1 xs1, .slice xq2 xr2 xs2] := HJ.out.pure 1 _ (by rw [HS.out]; rfl) (HW.out 1 (by decide))
          simp only [e0, e1]
          rw [if_pos (by rfl)]
          go_simp
          go_at_call 34
          (with_reducible refine (C5.out _ _ _ (Vl_11.out.kp HJ.out.k) (Vx_11.out.kp HJ.out.k) (Z_11.out.kp HJ.out.k)).mono ?_)
          rintro e w2 ⟨rfl, kk⟩
          exact hK.out _ (.int .i64 c1) _ (by (try dsimp only) <;> simp only [Act.put, List.setIfInBounds_toArray, List.set_cons_zero, List.set_cons_succ, e0, e1]) ((HJ.out.later kk).pureStep 2 _ HB.out (by rw [HS.out]; rfl) (by rw [HS.out]; rfl) (by rw [HS.out]; rfl) (by rw [HS.out]; rfl))
        refine StepsJ.cons ?_ ?_
        · intro b f w1 hb hw hJ K hK
          have HB := Lib.hid hb
          have HJ := Lib.hid hJ
          have HW := Lib.hid hw
          clear hJ hw hb
          try dsimp only
          have e2 : f 2 = .int .i64 c1 := HJ.out.pure 2 _ (by rw [HS.out]; rfl) (HW.out 2 (by decide))
          simp only [e2]
          rw [if_pos (by rfl)]
          go_simp
          exact hK.out _ (.bool true) _ (by (try dsimp only) <;> simp only [Act.put, List.setIfInBounds_toArray, List.set_cons_zero, List.set_cons_succ, e2]) (HJ.out.pureStep 3 _ HB.out (by rw [HS.out]; rfl) (by rw [HS.out]; rfl) (by rw [HS.out]; rfl) (by rw [HS.out]; rfl))
        refine StepsJ.cons ?_ ?_
        · intro b f w1 hb hw hJ K hK
          have HB := Lib.hid hb
          have HJ := Lib.hid hJ
          have HW := Lib.hid hw
          clear hJ hw hb
          try dsimp only
          have e3 : f 3 = .bool true := HJ.out.pure 3 _ (by rw [HS.out]; rfl) (HW.out 3 (by decide))
          simp only [e3]
          rw [if_pos (by rfl)]
          go_simp
          exact hK.out _ (.bool true) _ (by (try dsimp only) <;> simp only [Act.put, List.setIfInBounds_toArray, List.set_cons_zero, List.set_cons_succ, e3]) (HJ.out.pureStep 4 _ HB.out (by rw [HS.out]; rfl) (by rw [HS.out]; rfl) (by rw [HS.out]; rfl) (by rw [HS.out]; rfl))
        refine StepsJ.cons ?_ ?_
        · intro b f w1 hb hw hJ K hK
          have HB := Lib.hid hb
          have HJ := Lib.hid hJ
          have HW := Lib.hid hw
          clear hJ hw hb
          try dsimp only
          have e4 : f 4 = .bool true := HJ.out.pure 4 _ (by rw [HS.out]; rfl) (HW.out 4 (by decide))
          simp only [e4]
          rw [if_pos (by rfl)]
          obtain ⟨xg0, xg1, xg2, _⟩ := (Bx_11.out.kp HJ.out.k).cells
          go_simp
          exact hK.out _ (.agg #[.bool xs, .slice xq1 xr1 xs1, .slice xq2 xr2 xs2]) _ (by (try dsimp only) <;> simp only [Act.put, List.setIfInBounds_toArray, List.set_cons_zero, List.set_cons_succ, e4]) (HJ.out.pureStep 5 _ HB.out (by rw [HS.out]; rfl) (by rw [HS.out]; rfl) (by rw [HS.out]; rfl) (by rw [HS.out]; rfl))
        refine StepsJ.cons ?_ ?_
        · intro b f w1 hb hw hJ K hK
          have HB := Lib.hid hb
          have HJ := Lib.hid hJ
          have HW := Lib.hid hw
          clear hJ hw hb
          try dsimp only
          have e4 : f 4 = .bool true := HJ.out.pure 4 _ (by rw [HS.out]; rfl) (HW.out 4 (by decide))
          simp only [e4]
          rw [if_pos (by rfl)]
          obtain ⟨hg0, hg1, hg2, _⟩ := (Bh_11.out.kp HJ.out.k).cells
          go_simp
          exact hK.out _ (.agg #[.bool hs, .slice hq1 hr1 hs1, .slice hq2 hr2 hs2]) _ (by (try dsimp only) <;> simp only [Act.put, List.setIfInBounds_toArray, List.set_cons_zero, List.set_cons_succ, e4]) (HJ.out.pureStep 6 _ HB.out (by rw [HS.out]; rfl) (by rw [HS.out]; rfl) (by rw [HS.out]; rfl) (by rw [HS.out]; rfl))
        refine StepsJ.cons ?_ ?_
        · intro b f w1 hb hw hJ K hK
          have HB := Lib.hid hb
          have HJ := Lib.hid hJ
          have HW := Lib.hid hw
          clear hJ hw hb
          try dsimp only
          have e4 : f 4 = .bool true := HJ.out.pure 4 _ (by rw [HS.out]; rfl) (HW.out 4 (by decide))
          have e5 : f 5 = .agg #[.bool xs, .slice xq1 xr1 xs1, .slice xq2 xr2 xs2] := HJ.out.pure 5 _ (by rw [HS.out]; rfl) (HW.out 5 (by decide))
          have e6 : f 6 = .agg #[.bool hs, .slice hq1 hr1 hs1, .slice hq2 hr2 hs2] := HJ.out.pure 6 _ (by rw [HS.out]; rfl) (HW.out 6 (by decide))
          simp only [e4, e5, e6]
          rw [if_pos (by rfl)]
          go_simp
          go_at_call 34
          (with_reducible refine (C6.out _ _ _ (Vx_11.out.kp HJ.out.k) (Vh_11.out.kp HJ.out.k) (Z_11.out.kp HJ.out.k)).mono ?_)
          rintro e w2 ⟨rfl, kk⟩
          exact hK.out _ (.int .i64 c2) _ (by (try dsimp only) <;> simp only [Act.put, List.setIfInBounds_toArray, List.set_cons_zero, List.set_cons_succ, e4, e5, e6]) ((HJ.out.later kk).pureStep 7 _ HB.out (by rw [HS.out]; rfl) (by rw [HS.out]; rfl) (by rw [HS.out]; rfl) (by rw [HS.out]; rfl))
        refine StepsJ.cons ?_ ?_
        · intro b f w1 hb hw hJ K hK
          have HB := Lib.hid hb
          have HJ := Lib.hid hJ
          have HW := Lib.hid hw
          clear hJ hw hb
          try dsimp only
          have e4 : f 4 = .bool true := HJ.out.pure 4 _ (by rw [HS.out]; rfl) (HW.out 4 (by decide))
          have e7 : f 7 = .int .i64 c2 := HJ.out.pure 7 _ (by rw [HS.out]; rfl) (HW.out 7 (by decide))
          simp only [e4, e7]
          rw [if_pos (by rfl)]
          go_simp
          exact hK.out _ (.bool true) _ (by (try dsimp only) <;> simp only [Act.put, List.setIfInBounds_toArray, List.set_cons_zero, List.set_cons_succ, e4, e7]) (HJ.out.pureStep 8 _ HB.out (by rw [HS.out]; rfl) (by rw [HS.out]; rfl) (by rw [HS.out]; rfl) (by rw [HS.out]; rfl))
        refine StepsJ.cons ?_ ?_
        · intro b f w1 hb hw hJ K hK
          have HB := Lib.hid hb
          have HJ := Lib.hid hJ
          have HW := Lib.hid hw
          clear hJ hw hb
          try dsimp only
          have e4 : f 4 = .bool true := HJ.out.pure 4 _ (by rw [HS.out]; rfl) (HW.out 4 (by decide))
          have e8 : f 8 = .bool true := HJ.out.pure 8 _ (by rw [HS.out]; rfl) (HW.out 8 (by decide))
          simp only [e4, e8]
          rw [if_pos (by rfl)]
          go_simp
          exact hK.out _ (.bool true) _ (by (try dsimp only) <;> simp only [Act.put, List.setIfInBounds_toArray, List.set_cons_zero, List.set_cons_succ, e4, e8]) (HJ.out.pureStep 9 _ HB.out (by rw [HS.out]; rfl) (by rw [HS.out]; rfl) (by rw [HS.out]; rfl) (by rw [HS.out]; rfl))
        refine StepsJ.cons ?_ ?_
        · intro b f w1 hb hw hJ K hK
          have HB := Lib.hid hb
          have HJ := Lib.hid hJ
          have HW := Lib.hid hw
          clear hJ hw hb
          try dsimp only
          have e9 : f 9 = .bool true := HJ.out.pure 9 _ (by rw [HS.out]; rfl) (HW.out 9 (by decide))
          simp only [e9]
          rw [if_pos (by rfl)]
          go_simp
          exact hK.out _ (.bool true) _ (by (try dsimp only) <;> simp only [Act.put, List.setIfInBounds_toArray, List.set_cons_zero, List.set_cons_succ, e9]) (HJ.out.pureStep 10 _ HB.out (by rw [HS.out]; rfl) (by rw [HS.out]; rfl) (by rw [HS.out]; rfl) (by rw [HS.out]; rfl))
        refine StepsJ.cons ?_ ?_
        · intro b f w1 hb hw hJ K hK
          have HB := Lib.hid hb
          have HJ := Lib.hid hJ
          have HW := Lib.hid hw
          clear hJ hw hb
          try dsimp only
          have e10 : f 10 = .bool true := HJ.out.pure 10 _ (by rw [HS.out]; rfl) (HW.out 10 (by decide))
          simp only [e10]
          rw [if_pos (by rfl)]
          obtain ⟨lg0, lg1, lg2, _⟩ := (Bl_11.out.kp HJ.out.k).cells
          go_simp
          exact hK.out _ (.agg #[.bool ls, .slice lq1 lr1 ls1, .slice lq2 lr2 ls2]) _ (by (try dsimp only) <;> simp only [Act.put, List.setIfInBounds_toArray, List.set_cons_zero, List.set_cons_succ, e10]) (HJ.out.pureStep 11 _ HB.out (by rw [HS.out]; rfl) (by rw [HS.out]; rfl) (by rw [HS.out]; rfl) (by rw [HS.out]; rfl))
        refine StepsJ.cons ?_ ?_
        · intro b f w1 hb hw hJ K hK
          have HB := Lib.hid hb
          have HJ := Lib.hid hJ
          have HW := Lib.hid hw
          clear hJ hw hb
          try dsimp only
          have e10 : f 10 = .bool true := HJ.out.pure 10 _ (by rw [HS.out]; rfl) (HW.out 10 (by decide))
          simp only [e10]
          rw [if_pos (by rfl)]
          obtain ⟨xg0, xg1, xg2, _⟩ := (Bx_11.out.kp HJ.out.k).cells
          go_simp
          exact hK.out _ (.agg #[.bool xs, .slice xq1 xr1 xs1, .slice xq2 xr2 xs2]) _ (by (try dsimp only) <;> simp only [Act.put, List.setIfInBounds_toArray, List.set_cons_zero, List.set_cons_succ, e10]) (HJ.out.pureStep 12 _ HB.out (by rw [HS.out]; rfl) (by rw [HS.out]; rfl) (by rw [HS.out]; rfl) (by rw [HS.out]; rfl))
        refine StepsJ.cons ?_ ?_
        · intro b f w1 hb hw hJ K hK
          have HB := Lib.hid hb
          have HJ := Lib.hid hJ
          have HW := Lib.hid hw
          clear hJ hw hb
          try dsimp only
          have e10 : f 10 = .bool true := HJ.out.pure 10 _ (by rw [HS.out]; rfl) (HW.out 10 (by decide))
          have e11 : f 11 = .agg #[.bool ls, .slice lq1 lr1 ls1, .slice lq2 lr2 ls2] := HJ.out.pure 11 _ (by rw [HS.out]; rfl) (HW.out 11 (by decide))
          have e12 : f 12 = .agg #[.bool xs, .slice xq1 xr1 xs1, .slice xq2 xr2 xs2] := HJ.out.pure 12 _ (by rw [HS.out]; rfl) (HW.out 12 (by decide))
          simp only [e10, e11, e12]
          rw [if_pos (by rfl)]
          go_simp
          go_at_call 33
          (with_reducible refine (C7.out _ _ _ (Vl_11.out.kp HJ.out.k) (Vx_11.out.kp HJ.out.k)).mono ?_)
          rintro e w2 ⟨rfl, kk⟩
          exact hK.out _ (.bool bs) _ (by (try dsimp only) <;> simp only [Act.put, List.setIfInBounds_toArray, List.set_cons_zero, List.set_cons_succ, e10, e11, e12]) ((HJ.out.later kk).pureStep 13 _ HB.out (by rw [HS.out]; rfl) (by rw [HS.out]; rfl) (by rw [HS.out]; rfl) (by rw [HS.out]; rfl))
        refine StepsJ.cons ?_ ?_
        · intro b f w1 hb hw hJ K hK
          have HB := Lib.hid hb
          have HJ := Lib.hid hJ
          have HW := Lib.hid hw
          clear hJ hw hb
          try dsimp only
          have e10 : f 10 = .bool true := HJ.out.pure 10 _ (by rw [HS.out]; rfl) (HW.out 10 (by decide))
          simp only [e10]
          rw [if_pos (by rfl)]
          obtain ⟨hg0, hg1, hg2, _⟩ := (Bh_11.out.kp HJ.out.k).cells
          go_simp
          exact hK.out _ (.agg #[.bool hs, .slice hq1 hr1 hs1, .slice hq2 hr2 hs2]) _ (by (try dsimp only) <;> simp only [Act.put, List.setIfInBounds_toArray, List.set_cons_zero, List.set_cons_succ, e10]) (HJ.out.pureStep 14 _ HB.out (by rw [HS.out]; rfl) (by rw [HS.out]; rfl) (by rw [HS.out]; rfl) (by rw [HS.out]; rfl))
        refine StepsJ.cons ?_ ?_
        · intro b f w1 hb hw hJ K hK
          have HB := Lib.hid hb
          have HJ := Lib.hid hJ
          have HW := Lib.hid hw
          clear hJ hw hb
          try dsimp only
          have e10 : f 10 = .bool true := HJ.out.pure 10 _ (by rw [HS.out]; rfl) (HW.out 10 (by decide))
          simp only [e10]
          rw [if_pos (by rfl)]
          obtain ⟨xg0, xg1, xg2, _⟩ := (Bx_11.out.kp HJ.out.k).cells
          go_simp
          exact hK.out _ (.agg #[.bool xs, .slice xq1 xr1 xs1, .slice xq2 xr2 xs2]) _ (by (try dsimp only) <;> simp only [Act.put, List.setIfInBounds_toArray, List.set_cons_zero, List.set_cons_succ, e10]) (HJ.out.pureStep 15 _ HB.out (by rw [HS.out]; rfl) (by rw [HS.out]; rfl) (by rw [HS.out]; rfl) (by rw [HS.out]; rfl))
        refine StepsJ.cons ?_ ?_
        · intro b f w1 hb hw hJ K hK
          have HB := Lib.hid hb
          have HJ := Lib.hid hJ
          have HW := Lib.hid hw
          clear hJ hw hb
          try dsimp only
          have e10 : f 10 = .bool true := HJ.out.pure 10 _ (by rw [HS.out]; rfl) (HW.out 10 (by decide))
          have e14 : f 14 = .agg #[.bool hs, .slice hq1 hr1 hs1, .slice hq2 hr2 hs2] := HJ.out.pure 14 _ (by rw [HS.out]; rfl) (HW.out 14 (by decide))
          have e15 : f 15 = .agg #[.bool xs, .slice xq1 xr1 xs1, .slice xq2 xr2 xs2] := HJ.out.pure 15 _ (by rw [HS.out]; rfl) (HW.out 15 (by decide))
          simp only [e10, e14, e15]
          rw [if_pos (by rfl)]
          go_simp
          go_at_call 33
          (with_reducible refine (C8.out _ _ _ (Vh_11.out.kp HJ.out.k) (Vx_11.out.kp HJ.out.k)).mono ?_)
          rintro e w2 ⟨rfl, kk⟩
          exact hK.out _ (.bool bs) _ (by (try dsimp only) <;> simp only [Act.put, List.setIfInBounds_toArray, List.set_cons_zero, List.set_cons_succ, e10, e14, e15]) ((HJ.out.later kk).pureStep 16 _ HB.out (by rw [HS.out]; rfl) (by rw [HS.out]; rfl) (by rw [HS.out]; rfl) (by rw [HS.out]; rfl))
        refine StepsJ.cons ?_ ?_
        · intro b f w1 hb hw hJ K hK
          have HB := Lib.hid hb
          have HJ := Lib.hid hJ
          have HW := Lib.hid hw
          clear hJ hw hb
          try dsimp only
          have e10 : f 10 = .bool true := HJ.out.pure 10 _ (by rw [HS.out]; rfl) (HW.out 10 (by decide))
          have e13 : f 13 = .bool bs := HJ.out.pure 13 _ (by rw [HS.out]; rfl) (HW.out 13 (by decide))
          have e16 : f 16 = .bool bs := HJ.out.pure 16 _ (by rw [HS.out]; rfl) (HW.out 16 (by decide))
          simp only [e10, e13, e16]
          rw [if_pos (by rfl)]
          go_simp
          exact hK.out _ (.bool true) _ (by (try dsimp only) <;> simp only [Act.put, List.setIfInBounds_toArray, List.set_cons_zero, List.set_cons_succ, e10, e13, e16]) (HJ.out.pureStep 17 _ HB.out (by rw [HS.out]; rfl) (by rw [HS.out]; rfl) (by rw [HS.out]; rfl) (by rw [HS.out]; rfl))
        refine StepsJ.cons ?_ ?_
        · intro b f w1 hb hw hJ K hK
          have HB := Lib.hid hb
          have HJ := Lib.hid hJ
          have HW := Lib.hid hw
          clear hJ hw hb
          try dsimp only
          have e10 : f 10 = .bool true := HJ.out.pure 10 _ (by rw [HS.out]; rfl) (HW.out 10 (by decide))
          have e17 : f 17 = .bool true := HJ.out.pure 17 _ (by rw [HS.out]; rfl) (HW.out 17 (by decide))
          simp only [e10, e17]
          rw [if_pos (by rfl)]
          go_simp
          exact hK.out _ (.bool true) _ (by (try dsimp only) <;> simp only [Act.put, List.setIfInBounds_toArray, List.set_cons_zero, List.set_cons_succ, e10, e17]) (HJ.out.pureStep 18 _ HB.out (by rw [HS.out]; rfl) (by rw [HS.out]; rfl) (by rw [HS.out]; rfl) (by rw [HS.out]; rfl))
        refine StepsJ.cons ?_ ?_
        · intro b f w1 hb hw hJ K hK
          have HB := Lib.hid hb
          have HJ := Lib.hid hJ
          have HW := Lib.hid hw
          clear hJ hw hb
          try dsimp only
          have e18 : f 18 = .bool true := HJ.out.pure 18 _ (by rw [HS.out]; rfl) (HW.out 18 (by decide))
          simp only [e18]
          rw [if_pos (by rfl)]
          go_simp
          exact hK.out _ (.bool true) _ (by (try dsimp only) <;> simp only [Act.put, List.setIfInBounds_toArray, List.set_cons_zero, List.set_cons_succ, e18]) (HJ.out.pureStep 19 _ HB.out (by rw [HS.out]; rfl) (by rw [HS.out]; rfl) (by rw [HS.out]; rfl) (by rw [HS.out]; rfl))
        refine StepsJ.cons ?_ ?_
        · intro b f w1 hb hw hJ K hK
          have HB := Lib.hid hb
          have HJ := Lib.hid hJ
          have HW := Lib.hid hw
          clear hJ hw hb
          try dsimp only
          have e19 : f 19 = .bool true := HJ.out.pure 19 _ (by rw [HS.out]; rfl) (HW.out 19 (by decide))
          simp only [e19]
          rw [if_pos (by rfl)]
          obtain ⟨lg0, lg1, lg2, _⟩ := (Bl_11.out.kp HJ.out.k).cells
          go_simp
          exact hK.out _ (.agg #[.bool ls, .slice lq1 lr1 ls1, .slice lq2 lr2 ls2]) _ (by (try dsimp only) <;> simp only [Act.put, List.setIfInBounds_toArray, List.set_cons_zero, List.set_cons_succ, e19]) (HJ.out.pureStep 20 _ HB.out (by rw [HS.out]; rfl) (by rw [HS.out]; rfl) (by rw [HS.out]; rfl) (by rw [HS.out]; rfl))
        refine StepsJ.cons ?_ ?_
        · intro b f w1 hb hw hJ K hK
          have HB := Lib.hid hb
          have HJ := Lib.hid hJ
          have HW := Lib.hid hw
          clear hJ hw hb
          try dsimp only
          have e19 : f 19 = .bool true := HJ.out.pure 19 _ (by rw [HS.out]; rfl) (HW.out 19 (by decide))
          simp only [e19]
          rw [if_pos (by rfl)]
          go_simp
          exact hK.out _ (.int .i64 (m : Int)) _ (by (try dsimp only) <;> simp only [Act.put, List.setIfInBounds_toArray, List.set_cons_zero, List.set_cons_succ, e19]) (HJ.out.pureStep 21 _ HB.out (by rw [HS.out]; rfl) (by rw [HS.out]; rfl) (by rw [HS.out]; rfl) (by rw [HS.out]; rfl))
        refine StepsJ.cons ?_ ?_
        · intro b f w1 hb hw hJ K hK
          have HB := Lib.hid hb
          have HJ := Lib.hid hJ
          have HW := Lib.hid hw
          clear hJ hw hb
          try dsimp only
          have e19 : f 19 = .bool true := HJ.out.pure 19 _ (by rw [HS.out]; rfl) (HW.out 19 (by decide))
          have e20 : f 20 = .agg #[.bool ls, .slice lq1 lr1 ls1, .slice lq2 lr2 ls2] := HJ.out.pure 20 _ (by rw [HS.out]; rfl) (HW.out 20 (by decide))
          have e21 : f 21 = .int .i64 (m : Int) := HJ.out.pure 21 _ (by rw [HS.out]; rfl) (HW.out 21 (by decide))
          simp only [e19, e20, e21]
          rw [if_pos (by rfl)]
          go_simp
          go_at_call 50
          (with_reducible refine (C9.out _ _ (Vl_11.out.kp HJ.out.k) (Z_11.out.kp HJ.out.k)).mono ?_)
          rintro e w2 ⟨vr, rfl, hr, kk⟩
          exact hK.out _ vr _ (by (try dsimp only) <;> simp only [Act.put, List.setIfInBounds_toArray, List.set_cons_zero, List.set_cons_succ, e19, e20, e21]) (HJ.out.callStep 22 vr _ HB.out kk hr (by rw [HS.out]; rfl) (by rw [HS.out]; rfl) (by rw [HS.out]; rfl) (by rw [HS.out]; rfl))
        refine StepsJ.cons ?_ ?_
        · intro b f w1 hb hw hJ K hK
          have HB := Lib.hid hb
          have HJ := Lib.hid hJ
          have HW := Lib.hid hw
          clear hJ hw hb
          try dsimp only
          have e19 : f 19 = .bool true := HJ.out.pure 19 _ (by rw [HS.out]; rfl) (HW.out 19 (by decide))
          simp only [e19]
          rw [if_pos (by rfl)]
          obtain ⟨lg0, lg1, lg2, _⟩ := (Bl_11.out.kp HJ.out.k).cells
          go_simp
          exact hK.out _ (.agg #[.bool ls, .slice lq1 lr1 ls1, .slice lq2 lr2 ls2]) _ (by (try dsimp only) <;> simp only [Act.put, List.setIfInBounds_toArray, List.set_cons_zero, List.set_cons_succ, e19]) (HJ.out.pureStep 23 _ HB.out (by rw [HS.out]; rfl) (by rw [HS.out]; rfl) (by rw [HS.out]; rfl) (by rw [HS.out]; rfl))
        refine StepsJ.cons ?_ ?_
        · intro b f w1 hb hw hJ K hK
          have HB := Lib.hid hb
          have HJ := Lib.hid hJ
          have HW := Lib.hid hw
          clear hJ hw hb
          try dsimp only
          have e19 : f 19 = .bool true := HJ.out.pure 19 _ (by rw [HS.out]; rfl) (HW.out 19 (by decide))
          have e23 : f 23 = .agg #[.bool ls, .slice lq1 lr1 ls1, .slice lq2 lr2 ls2] := HJ.out.pure 23 _ (by rw [HS.out]; rfl) (HW.out 23 (by decide))
          simp only [e19, e23]
          rw [if_pos (by rfl)]
          have a22 := HJ.out.call 22 _ (by rw [HS.out]; rfl) (HW.out 22 (by decide))
          have Ha22 := Lib.hid a22
          clear a22
          go_simp
          go_at_call 33
          (with_reducible refine (C10.out _ _ _ Ha22.out (Vl_11.out.kp HJ.out.k)).mono ?_)
          rintro e w2 ⟨rfl, kk⟩
          exact hK.out _ (.bool true) _ (by (try dsimp only) <;> simp only [Act.put, List.setIfInBounds_toArray, List.set_cons_zero, List.set_cons_succ, e19, e23]) ((HJ.out.later kk).pureStep 24 _ HB.out (by rw [HS.out]; rfl) (by rw [HS.out]; rfl) (by rw [HS.out]; rfl) (by rw [HS.out]; rfl))
        refine StepsJ.cons ?_ ?_
        · intro b f w1 hb hw hJ K hK
          have HB := Lib.hid hb
          have HJ := Lib.hid hJ
          have HW := Lib.hid hw
          clear hJ hw hb
          try dsimp only
          have e19 : f 19 = .bool true := HJ.out.pure 19 _ (by rw [HS.out]; rfl) (HW.out 19 (by decide))
          have e24 : f 24 = .bool true := HJ.out.pure 24 _ (by rw [HS.out]; rfl) (HW.out 24 (by decide))
          simp only [e19, e24]
          rw [if_pos (by rfl)]
          go_simp
          exact hK.out _ (.bool true) _ (by (try dsimp only) <;> simp only [Act.put, List.setIfInBounds_toArray, List.set_cons_zero, List.set_cons_succ, e19, e24]) (HJ.out.pureStep 25 _ HB.out (by rw [HS.out]; rfl) (by rw [HS.out]; rfl) (by rw [HS.out]; rfl) (by rw [HS.out]; rfl))
        refine StepsJ.cons ?_ ?_
        · intro b f w1 hb hw hJ K hK
          have HB := Lib.hid hb
          have HJ := Lib.hid hJ
          have HW := Lib.hid hw
          clear hJ hw hb
          try dsimp only
          have e25 : f 25 = .bool true := HJ.out.pure 25 _ (by rw [HS.out]; rfl) (HW.out 25 (by decide))
          simp only [e25]
          rw [if_pos (by rfl)]
          go_simp
          exact hK.out _ (.bool true) _ (by (try dsimp only) <;> simp only [Act.put, List.setIfInBounds_toArray, List.set_cons_zero, List.set_cons_succ, e25]) (HJ.out.pureStep 26 _ HB.out (by rw [HS.out]; rfl) (by rw [HS.out]; rfl) (by rw [HS.out]; rfl) (by rw [HS.out]; rfl))
        refine StepsJ.cons ?_ ?_
        · intro b f w1 hb hw hJ K hK
          have HB := Lib.hid hb
          have HJ := Lib.hid hJ
          have HW := Lib.hid hw
          clear hJ hw hb
          try dsimp only
          have e26 : f 26 = .bool true := HJ.out.pure 26 _ (by rw [HS.out]; rfl) (HW.out 26 (by decide))
          simp only [e26]
          rw [if_pos (by rfl)]
          obtain ⟨xg0, xg1, xg2, _⟩ := (Bx_11.out.kp HJ.out.k).cells
          go_simp
          exact hK.out _ (.agg #[.bool xs, .slice xq1 xr1 xs1, .slice xq2 xr2 xs2]) _ (by (try dsimp only) <;> simp only [Act.put, List.setIfInBounds_toArray, List.set_cons_zero, List.set_cons_succ, e26]) (HJ.out.pureStep 27 _ HB.out (by rw [HS.out]; rfl) (by rw [HS.out]; rfl) (by rw [HS.out]; rfl) (by rw [HS.out]; rfl))
        refine StepsJ.cons ?_ ?_
        · intro b f w1 hb hw hJ K hK
          have HB := Lib.hid hb
          have HJ := Lib.hid hJ
          have HW := Lib.hid hw
          clear hJ hw hb
          try dsimp only
          have e26 : f 26 = .bool true := HJ.out.pure 26 _ (by rw [HS.out]; rfl) (HW.out 26 (by decide))
          have e27 : f 27 = .agg #[.bool xs, .slice xq1 xr1 xs1, .slice xq2 xr2 xs2] := HJ.out.pure 27 _ (by rw [HS.out]; rfl) (HW.out 27 (by decide))
          simp only [e26, e27]
          rw [if_pos (by rfl)]
          go_simp
          go_at_call 48
          (with_reducible refine (C11.out _ _ (Vx_11.out.kp HJ.out.k) (Z_11.out.kp HJ.out.k)).mono ?_)
          rintro e w2 ⟨vr, rfl, hr, kk⟩
          exact hK.out _ vr _ (by (try dsimp only) <;> simp only [Act.put, List.setIfInBounds_toArray, List.set_cons_zero, List.set_cons_succ, e26, e27]) (HJ.out.callStep 28 vr _ HB.out kk hr (by rw [HS.out]; rfl) (by rw [HS.out]; rfl) (by rw [HS.out]; rfl) (by rw [HS.out]; rfl))
        refine StepsJ.cons ?_ ?_
        · intro b f w1 hb hw hJ K hK
          have HB := Lib.hid hb
          have HJ := Lib.hid hJ
          have HW := Lib.hid hw
          clear hJ hw hb
          try dsimp only
          have e26 : f 26 = .bool true := HJ.out.pure 26 _ (by rw [HS.out]; rfl) (HW.out 26 (by decide))
          simp only [e26]
          rw [if_pos (by rfl)]
          obtain ⟨xg0, xg1, xg2, _⟩ := (Bx_11.out.kp HJ.out.k).cells
          go_simp
          exact hK.out _ (.agg #[.bool xs, .slice xq1 xr1 xs1, .slice xq2 xr2 xs2]) _ (by (try dsimp only) <;> simp only [Act.put, List.setIfInBounds_toArray, List.set_cons_zero, List.set_cons_succ, e26]) (HJ.out.pureStep 29 _ HB.out (by rw [HS.out]; rfl) (by rw [HS.out]; rfl) (by rw [HS.out]; rfl) (by rw [HS.out]; rfl))
        refine StepsJ.cons ?_ ?_
        · intro b f w1 hb hw hJ K hK
          have HB := Lib.hid hb
          have HJ := Lib.hid hJ
          have HW := Lib.hid hw
          clear hJ hw hb
          try dsimp only
          have e26 : f 26 = .bool true := HJ.out.pure 26 _ (by rw [HS.out]; rfl) (HW.out 26 (by decide))
          have e29 : f 29 = .agg #[.bool xs, .slice xq1 xr1 xs1, .slice xq2 xr2 xs2] := HJ.out.pure 29 _ (by rw [HS.out]; rfl) (HW.out 29 (by decide))
          simp only [e26, e29]
          rw [if_pos (by rfl)]
          go_simp
          go_at_call 50
          (with_reducible refine (C12.out _ _ (Vx_11.out.kp HJ.out.k) (Z_11.out.kp HJ.out.k)).mono ?_)
          rintro e w2 ⟨vr, rfl, hr, kk⟩
          exact hK.out _ vr _ (by (try dsimp only) <;> simp only [Act.put, List.setIfInBounds_toArray, List.set_cons_zero, List.set_cons_succ, e26, e29]) (HJ.out.callStep 30 vr _ HB.out kk hr (by rw [HS.out]; rfl) (by rw [HS.out]; rfl) (by rw [HS.out]; rfl) (by rw [HS.out]; rfl))
        refine StepsJ.cons ?_ ?_
        · intro b f w1 hb hw hJ K hK
          have HB := Lib.hid hb
          have HJ := Lib.hid hJ
          have HW := Lib.hid hw
          clear hJ hw hb
          try dsimp only
          have e26 : f 26 = .bool true := HJ.out.pure 26 _ (by rw [HS.out]; rfl) (HW.out 26 (by decide))
          simp only [e26]
          rw [if_pos (by rfl)]
          have a28 := HJ.out.call 28 _ (by rw [HS.out]; rfl) (HW.out 28 (by decide))
          have a30 := HJ.out.call 30 _ (by rw [HS.out]; rfl) (HW.out 30 (by decide))
          have Ha28 := Lib.hid a28
          clear a28
          have Ha30 := Lib.hid a30
          clear a30
          go_simp
          go_at_call 33
          (with_reducible refine (C13.out _ _ _ Ha28.out Ha30.out).mono ?_)
          rintro e w2 ⟨rfl, kk⟩
          exact hK.out _ (.bool true) _ (by (try dsimp only) <;> simp only [Act.put, List.setIfInBounds_toArray, List.set_cons_zero, List.set_cons_succ, e26]) ((HJ.out.later kk).pureStep 31 _ HB.out (by rw [HS.out]; rfl) (by rw [HS.out]; rfl) (by rw [HS.out]; rfl) (by rw [HS.out]; rfl))
        refine StepsJ.cons ?_ ?_
        · intro b f w1 hb hw hJ K hK
          have HB := Lib.hid hb
          have HJ := Lib.hid hJ
          have HW := Lib.hid hw
          clear hJ hw hb
          try dsimp only
          have e26 : f 26 = .bool true := HJ.out.pure 26 _ (by rw [HS.out]; rfl) (HW.out 26 (by decide))
          have e31 : f 31 = .bool true := HJ.out.pure 31 _ (by rw [HS.out]; rfl) (HW.out 31 (by decide))
          simp only [e26, e31]
          rw [if_pos (by rfl)]
          go_simp
          exact hK.out _ (.bool true) _ (by (try dsimp only) <;> simp only [Act.put, List.setIfInBounds_toArray, List.set_cons_zero, List.set_cons_succ, e26, e31]) (HJ.out.pureStep 32 _ HB.out (by rw [HS.out]; rfl) (by rw [HS.out]; rfl) (by rw [HS.out]; rfl) (by rw [HS.out]; rfl))
        refine StepsJ.cons ?_ ?_
        · intro b f w1 hb hw hJ K hK
          have HB := Lib.hid hb
          have HJ := Lib.hid hJ
          have HW := Lib.hid hw
          clear hJ hw hb
          try dsimp only
          have e32 : f 32 = .bool true := HJ.out.pure 32 _ (by rw [HS.out]; rfl) (HW.out 32 (by decide))
          simp only [e32]
          rw [if_pos (by rfl)]
          go_simp
          exact hK.out _ (.bool true) _ (by (try dsimp only) <;> simp only [Act.put, List.setIfInBounds_toArray, List.set_cons_zero, List.set_cons_succ, e32]) (HJ.out.pureStep 33 _ HB.out (by rw [HS.out]; rfl) (by rw [HS.out]; rfl) (by rw [HS.out]; rfl) (by rw [HS.out]; rfl))
        refine StepsJ.cons ?_ ?_
        · intro b f w1 hb hw hJ K hK
          have HB := Lib.hid hb
          have HJ := Lib.hid hJ
          have HW := Lib.hid hw
          clear hJ hw hb
          try dsimp only
          have e33 : f 33 = .bool true := HJ.out.pure 33 _ (by rw [HS.out]; rfl) (HW.out 33 (by decide))
          simp only [e33]
          rw [if_pos (by rfl)]
          go_simp
          go_at_call 14
          (with_reducible refine (CAW.out _ (T_11.out.kp HJ.out.k).k (Z_11.out.kp HJ.out.k)).mono ?_)
          rintro e w2 ⟨rfl, kk⟩
          exact hK.out _ (.bool true) _ (by (try dsimp only) <;> simp only [Act.put, List.setIfInBounds_toArray, List.set_cons_zero, List.set_cons_succ, e33]) ((HJ.out.later kk).pureStep 34 _ HB.out (by rw [HS.out]; rfl) (by rw [HS.out]; rfl) (by rw [HS.out]; rfl) (by rw [HS.out]; rfl))
        refine StepsJ.cons ?_ ?_
        · intro b f w1 hb hw hJ K hK
          have HB := Lib.hid hb
          have HJ := Lib.hid hJ
          have HW := Lib.hid hw
          clear hJ hw hb
          try dsimp only
          have e33 : f 33 = .bool true := HJ.out.pure 33 _ (by rw [HS.out]; rfl) (HW.out 33 (by decide))
          have e34 : f 34 = .bool true := HJ.out.pure 34 _ (by rw [HS.out]; rfl) (HW.out 34 (by decide))
          simp only [e33, e34]
          rw [if_pos (by rfl)]
          go_simp
          exact hK.out _ (.bool true) _ (by (try dsimp only) <;> simp only [Act.put, List.setIfInBounds_toArray, List.set_cons_zero, List.set_cons_succ, e33, e34]) (HJ.out.pureStep 35 _ HB.out (by rw [HS.out]; rfl) (by rw [HS.out]; rfl) (by rw [HS.out]; rfl) (by rw [HS.out]; rfl))
        refine StepsJ.cons ?_ ?_
        · intro b f w1 hb hw hJ K hK
          have HB := Lib.hid hb
          have HJ := Lib.hid hJ
          have HW := Lib.hid hw
          clear hJ hw hb
          try dsimp only
          have e35 : f 35 = .bool true := HJ.out.pure 35 _ (by rw [HS.out]; rfl) (HW.out 35 (by decide))
          simp only [e35]
          rw [if_pos (by rfl)]
          go_simp
          exact hK.out _ (.bool true) _ (by (try dsimp only) <;> simp only [Act.put, List.setIfInBounds_toArray, List.set_cons_zero, List.set_cons_succ, e35]) (HJ.out.pureStep 36 _ HB.out (by rw [HS.out]; rfl) (by rw [HS.out]; rfl) (by rw [HS.out]; rfl) (by rw [HS.out]; rfl))
        exact StepsJ.nil
      case hend =>
        intro b f w12 hb hJ
        try dsimp only
        have e36 : f 36 = .bool true := hJ.pure 36 _ (by rw [HS.out]; rfl) (hb 36 (by decide))
        have kk := hJ.k
        clear hJ hb
        have T_12 := Lib.hid (T_11.out.kp kk)
        have Z_12 := Lib.hid (Z_11.out.kp kk)
        have Vx_12 := Lib.hid (Vx_11.out.kp kk)
        have Bx_12 := Lib.hid (Bx_11.out.kp kk)
        have Vl_12 := Lib.hid (Vl_11.out.kp kk)
        have Bl_12 := Lib.hid (Bl_11.out.kp kk)
        have Vh_12 := Lib.hid (Vh_11.out.kp kk)
        have Bh_12 := Lib.hid (Bh_11.out.kp kk)
        have Vq_12 := Lib.hid (Vq_11.out.kp kk)
        have Bq_12 := Lib.hid (Bq_11.out.kp kk)
        clear kk T_11 Z_11 Vx_11 Bx_11 Vl_11 Bl_11 Vh_11 Bh_11 Vq_11 Bq_11
        simp only [e36]
        clear e36
        generalize f 0 = yc0
        generalize f 1 = yc1
        generalize f 2 = yc2
        generalize f 3 = yc3
        generalize f 4 = yc4
        generalize f 5 = yc5
        generalize f 6 = yc6
        generalize f 7 = yc7
        generalize f 8 = yc8
        generalize f 9 = yc9
        generalize f 10 = yc10
        generalize f 11 = yc11
        generalize f 12 = yc12
        generalize f 13 = yc13
        generalize f 14 = yc14
        generalize f 15 = yc15
        generalize f 16 = yc16
        generalize f 17 = yc17
        generalize f 18 = yc18
        generalize f 19 = yc19
        generalize f 20 = yc20
        generalize f 21 = yc21
        generalize f 22 = yc22
        generalize f 23 = yc23
        generalize f 24 = yc24
        generalize f 25 = yc25
        generalize f 26 = yc26
        generalize f 27 = yc27
        generalize f 28 = yc28
        generalize f 29 = yc29
        generalize f 30 = yc30
        generalize f 31 = yc31
        generalize f 32 = yc32
        generalize f 33 = yc33
        generalize f 34 = yc34
        generalize f 35 = yc35
        clear HS S f b
        obtain ⟨xz0, xz1, xz2⟩ := T_12.out.ra.cells
        obtain ⟨xg0, xg1, xg2, _⟩ := Bx_12.out.cells
        obtain ⟨lg0, lg1, lg2, _⟩ := Bl_12.out.cells
        obtain ⟨hg0, hg1, hg2, _⟩ := Bh_12.out.cells
        obtain ⟨qg0, qg1, qg2, _⟩ := Bq_12.out.cells
        go_wp2
        go_ret
        exact ⟨rfl, T_12.out.k⟩

set_option maxRecDepth 20000 in
set_option maxHeartbeats 4000000 in
theorem floors_high {w : World} {sa : Bool} {ua ub : Value} {n1 d1 : List Nat} (hua : Rd w ua n1) (hub : Rd w ub d1) (k : Int) (m : Nat) (hm : m < 64) (hk1 : k.tmod 64 = (m : Int)) (hk2 : k % 64 = (m : Int)) (hk3 : 0 ≤ k ∧ k ≤ 255) (hl9 : ¬ m < 62) (hl : (n1.length ≤ 16 ∧ d1.length ≤ 16)) (htab : Lib.TabIs Tryz.prog w "internal/strconv.uint64pow10" .u64 Lib.pow10Tab) (hZ : Tz w) :
    Calls Tryz.prog 11 #[.agg #[.bool sa, ua, ub], .int .u8 k] w fun e w' => e = .returned (.bool true) ∧ Kp w w' := by
  have HTB := Lib.hid (Lib.tabBelow_of_tabIs htab)
  have HZ := Lib.hid hZ
  have CAW := Lib.hid (fun w' (kk : Kp w w') (t : Tz w') => qawake_any w' t (tabKp HTB.out kk))
  have hl1 := hl
  have CL1 := Lib.hid (fun w' (kk : Kp w w') => qlight_yes (s := sa) (hua.kp kk) (hub.kp kk) hl1)
  have CN1 := Lib.hid (fun w' (kk : Kp w w') => number_any (s := sa) (hua.kp kk) (hub.kp kk) hl1.1 hl1.2)
  have Sx : RSz 16 (numR sa n1 d1) := rsz_num hua hub hl1.1 hl1.2
  obtain ⟨Xx, hXx⟩ : ∃ X, X = (numR sa n1 d1) := ⟨_, rfl⟩
  rw [← hXx] at CN1 Sx
  clear hXx
  obtain ⟨xo1, xl1, xc1, rfl⟩ := rd_slice hua
  obtain ⟨xo2, xl2, xc2, rfl⟩ := rd_slice hub
  have HT := Lib.hid (Rw1.new w (.bool sa) (.slice xo1 xl1 xc1) (.slice xo2 xl2 xc2))
  obtain ⟨hk4, hk5⟩ := hk3
  have sm := scale_at hm
  have sz0 : scaleQ 0 = 0 := by decide
  obtain ⟨lo, hlo⟩ : ∃ q, q = downR Xx m := ⟨_, rfl⟩
  obtain ⟨hi, hhi⟩ : ∃ q, q = upR Xx m := ⟨_, rfl⟩
  have SL : RSz 20 lo := by rw [hlo]; exact rsz_down Sx hm
  have SH : RSz 20 hi := by rw [hhi]; exact rsz_up Sx hm
  have C1 := Lib.hid (fun w' a (ha : RatV w' a (Xx)) (t : Tz w') => qdown_any ha (m : Int) Sx (by omega) t)
  rw [sm, ← hlo] at C1
  have C2 := Lib.hid (fun w' a (ha : RatV w' a (Xx)) (t : Tz w') => qup_any ha (m : Int) Sx (by omega) t)
  rw [sm, ← hhi] at C2
  obtain ⟨r, hr⟩ : ∃ r, r = m % 62 := ⟨_, rfl⟩
  have hr62 : r < 62 := by omega
  have hm1 : (m : Int).tmod 62 = (r : Int) := by rw [Int.tmod_eq_emod_of_nonneg (by omega)]; omega
  have hm2 : (m : Int) % 62 = (r : Int) := by omega
  have hr1 : (r : Int) ≤ 64 := by omega
  have hr0 : (0 : Int) ≤ (r : Int) := by omega
  obtain ⟨p, hp⟩ : ∃ p : Nat, p = 2 ^ r := ⟨_, rfl⟩
  have hp1 : p ≤ 2 ^ 61 := by rw [hp]; exact Nat.pow_le_pow_right (by decide) (by omega)
  have hp0 : 0 < p := by rw [hp]; exact Nat.two_pow_pos r
  have hpi : (2 : Int) ^ r = (p : Int) := by rw [hp]; simp
  have w1 : IntKind.i64.wrap (1 * (2 : Int) ^ r) = (p : Int) := by rw [Int.one_mul, hpi]; exact IntWalk.i64_in _ (by omega)
  have w2 : IntKind.i64.wrap ((2 : Int) ^ r) = (p : Int) := by rw [hpi]; exact IntWalk.i64_in _ (by omega)
  have w3 : IntKind.i64.wrap (p : Int) = (p : Int) := IntWalk.i64_in _ (by omega)
  have hu : ratOf (decide ((1 : Int) < 0) != decide ((p : Int) < 0)) (1 : Int).natAbs (p : Int).natAbs = ratOf false 1 p := by rw [decide_eq_false (show ¬ (p : Int) < 0 by omega)]; rfl
  have SU : RSz 2 (ratOf false 1 p) := by unfold ratOf; exact RSz.of_mkRat (by rw [sg_natAbs]; exact Sz.mono (length_toL_le 1 1 (by decide)) (by omega)) (by rw [hp]; exact szq_pow2 (by omega)) (by omega)
  have CU := Lib.hid (fun w' (t : Tz w') => make_any 1 (p : Int) (by decide) (by decide) (by omega) (by omega) (by omega) w' t)
  rw [hu] at CU
  obtain ⟨un, hun⟩ : ∃ q, q = ratOf false 1 p := ⟨_, rfl⟩
  rw [← hun] at CU SU
  obtain ⟨c1, hc1'⟩ : ∃ c : Int, c = cmpR lo Xx := ⟨_, rfl⟩
  have hd1 : decide (c1 ≤ 0) = true := decide_eq_true (by rw [hc1', hlo]; exact le_cmp (down_le Xx m))
  obtain ⟨c2, hc2'⟩ : ∃ c : Int, c = cmpR Xx hi := ⟨_, rfl⟩
  have hd2 : decide (c2 ≤ 0) = true := decide_eq_true (by rw [hc2', hhi]; exact le_cmp (up_ge Xx m))
  obtain ⟨bs, hbs⟩ : ∃ b : Bool, b = decide (lo = Xx) := ⟨_, rfl⟩
  have hbs2 : decide (hi = Xx) = bs := by rw [hbs]; refine bool_cmp ?_; rw [decide_eq_true_iff, decide_eq_true_iff, hhi, hlo]; exact (lo_hi Xx m).symm
  have C3 := Lib.hid (fun w' a b (ha : RatV w' a (lo)) (hb : RatV w' b (Xx)) (t : Tz w') => qcmp_any ha hb SL Sx (by omega) (by omega) t)
  rw [← hc1'] at C3
  have C4 := Lib.hid (fun w' a b (ha : RatV w' a (Xx)) (hb : RatV w' b (hi)) (t : Tz w') => qcmp_any ha hb Sx SH (by omega) (by omega) t)
  rw [← hc2'] at C4
  have C5 := Lib.hid (fun w' a b (ha : RatV w' a (lo)) (hb : RatV w' b (Xx)) => rsame_any ha hb)
  rw [← hbs] at C5
  have C6 := Lib.hid (fun w' a b (ha : RatV w' a (hi)) (hb : RatV w' b (Xx)) => rsame_any ha hb)
  rw [hbs2] at C6
  have C7 := Lib.hid (fun w' a (ha : RatV w' a (lo)) (t : Tz w') => qdown_any ha (m : Int) SL (by omega) t)
  rw [sm] at C7
  have C8 := Lib.hid (fun w' a b (ha : RatV w' a ((downR lo m))) (hb : RatV w' b (lo)) => by have h := rsame_any ha hb; rw [decide_eq_true (show ((downR lo m)) = (lo) from by rw [hlo]; exact down_down Xx m)] at h; exact h)
  have C9 := Lib.hid (fun w' a (ha : RatV w' a (Xx)) (t : Tz w') => qfloor_any ha Sx (by omega) t)
  have C10 := Lib.hid (fun w' a (ha : RatV w' a (Xx)) (t : Tz w') => qdown_any ha 0 Sx (by omega) t)
  rw [sz0] at C10
  have C11 := Lib.hid (fun w' a b (ha : RatV w' a ((Xx.floor : Rat))) (hb : RatV w' b ((downR Xx 0))) => by have h := rsame_any ha hb; rw [decide_eq_true (show ((Xx.floor : Rat)) = ((downR Xx 0)) from (down_zero Xx).symm)] at h; exact h)
  have hlt : decide ((m : Int) < 62) = false := decide_eq_false (by omega)
  clear hlo hhi hun hr hp hpi hu sm sz0 hbs hbs2 hc1' hc2' SL SH SU hp1 hp0 hr62 hm hl9
  clear hua hub hl1 Sx htab hZ
  go_enter Tryz.func11, Tryz.ntmps11
  have Z_e := Lib.hid (HZ.out.kp HT.out.k)
  obtain ⟨xz0, xz1, xz2⟩ := HT.out.ra.cells
  go_wp2_with (go_at_call 13; (with_reducible refine (CL1.out _ HT.out.k).mono ?_); rintro e w2 ⟨rfl, k2⟩; refine Hid.out ?_)
  refine Lib.hid ?_
  have T_2 := Lib.hid (HT.out.kp k2)
  have Z_2 := Lib.hid (Z_e.out.kp k2)
  clear HT Z_e
  clear k2
  obtain ⟨xz0, xz1, xz2⟩ := T_2.out.ra.cells
  go_wp2_with (go_at_call 24; (with_reducible refine (CN1.out _ T_2.out.k).mono ?_); rintro e w3 ⟨vx, rfl, hx, k3⟩; refine Hid.out ?_)
  refine Lib.hid ?_
  have T_3 := Lib.hid (T_2.out.kp k3)
  have Z_3 := Lib.hid (Z_2.out.kp k3)
  clear T_2 Z_2
  clear k3
  obtain ⟨xs, xq1, xr1, xs1, xq2, xr2, xs2, rfl⟩ := hx.lit
  have Vx_l := Lib.hid hx
  have Bx_l := Lib.hid (Res.new w3 (.bool xs) (.slice xq1 xr1 xs1) (.slice xq2 xr2 xs2))
  clear hx
  have T_4 := Lib.hid (T_3.out.kp (Kp.alloc _ (Obj.cells #[Value.bool xs, Value.slice xq1 xr1 xs1, Value.slice xq2 xr2 xs2] 27)))
  have Z_4 := Lib.hid (Z_3.out.kp (Kp.alloc _ (Obj.cells #[Value.bool xs, Value.slice xq1 xr1 xs1, Value.slice xq2 xr2 xs2] 27)))
  have Vx_4 := Lib.hid (Vx_l.out.kp (Kp.alloc _ (Obj.cells #[Value.bool xs, Value.slice xq1 xr1 xs1, Value.slice xq2 xr2 xs2] 27)))
  clear T_3 Z_3 Vx_l
  obtain ⟨xz0, xz1, xz2⟩ := T_4.out.ra.cells
  obtain ⟨xg0, xg1, xg2, _⟩ := Bx_l.out.cells
  go_upto_region 5 with fail
  have T_5 := Lib.hid (T_4.out.kp (Below.refl _ _).drew)
  have Z_5 := Lib.hid (Z_4.out.kp (Below.refl _ _).drew)
  have Vx_5 := Lib.hid (Vx_4.out.kp (Below.refl _ _).drew)
  have Bx_5 := Lib.hid (Bx_l.out.kp (Below.refl _ _).drew)
  clear T_4 Z_4 Vx_4 Bx_l
  obtain ⟨S, hS⟩ : ∃ S : Plan, S = ⟨[(0, .agg #[.bool xs, .slice xq1 xr1 xs1, .slice xq2 xr2 xs2]), (1, .int .i64 (m : Int)), (3, .agg #[.bool xs, .slice xq1 xr1 xs1, .slice xq2 xr2 xs2]), (4, .int .i64 (m : Int))], [(2, lo), (5, hi)], [], [⟨6, 8, 2⟩, ⟨7, 9, 5⟩]⟩ := ⟨_, rfl⟩
  have HS := Lib.hid hS
  clear hS
  refine' wp_region_inv (F := _) (by kernel_rfl) (by kernel_rfl) (by kernel_rfl) (PJ S _) (PJ.begin _ _ _) ?hF ?hsteps ?hend
  case hF => intro f; (try simp only [List.append]); simp only [putAll, Act.put, List.setIfInBounds_toArray, List.set_cons_zero, List.set_cons_succ, Nat.zero_add, Nat.reduceAdd]; exact rfl
  case hsteps =>
    refine StepsJ.cons ?_ ?_
    · intro b f w1 hb hw hJ K hK
      have HB := Lib.hid hb
      have HJ := Lib.hid hJ
      have HW := Lib.hid hw
      clear hJ hw hb
      try dsimp only
      rw [if_pos (by rfl)]
      obtain ⟨xg0, xg1, xg2, _⟩ := (Bx_5.out.kp HJ.out.k).cells
      go_simp
      exact hK.out _ (.agg #[.bool xs, .slice xq1 xr1 xs1, .slice xq2 xr2 xs2]) _ (by (try dsimp only) <;> simp only [Act.put, List.setIfInBounds_toArray, List.set_cons_zero, List.set_cons_succ]) (HJ.out.pureStep 0 _ HB.out (by rw [HS.out]; rfl) (by rw [HS.out]; rfl) (by rw [HS.out]; rfl) (by rw [HS.out]; rfl))
    refine StepsJ.cons ?_ ?_
    · intro b f w1 hb hw hJ K hK
      have HB := Lib.hid hb
      have HJ := Lib.hid hJ
      have HW := Lib.hid hw
      clear hJ hw hb
      try dsimp only
      rw [if_pos (by rfl)]
      go_simp
      exact hK.out _ (.int .i64 (m : Int)) _ (by (try dsimp only) <;> simp only [Act.put, List.setIfInBounds_toArray, List.set_cons_zero, List.set_cons_succ]) (HJ.out.pureStep 1 _ HB.out (by rw [HS.out]; rfl) (by rw [HS.out]; rfl) (by rw [HS.out]; rfl) (by rw [HS.out]; rfl))
    refine StepsJ.cons ?_ ?_
    · intro b f w1 hb hw hJ K hK
      have HB := Lib.hid hb
      have HJ := Lib.hid hJ
      have HW := Lib.hid hw
      clear hJ hw hb
      try dsimp only
      have e0 : f 0 = .agg #[.bool xs, .slice xq1 xr1 xs1, .slice xq2 xr2 xs2] := HJ.out.pure 0 _ (by rw [HS.out]; rfl) (HW.out 0 (by decide))
      have e1 : f 1 = .int .i64 (m : Int) := HJ.out.pure 1 _ (by rw [HS.out]; rfl) (HW.out 1 (by decide))
      simp only [e0, e1]
      rw [if_pos (by rfl)]
      go_simp
      go_at_call 50
      (with_reducible refine (C1.out _ _ (Vx_5.out.kp HJ.out.k) (Z_5.out.kp HJ.out.k)).mono ?_)
      rintro e w2 ⟨vr, rfl, hr, kk⟩
      exact hK.out _ vr _ (by (try dsimp only) <;> simp only [Act.put, List.setIfInBounds_toArray, List.set_cons_zero, List.set_cons_succ, e0, e1]) (HJ.out.callStep 2 vr _ HB.out kk hr (by rw [HS.out]; rfl) (by rw [HS.out]; rfl) (by rw [HS.out]; rfl) (by rw [HS.out]; rfl))
    refine StepsJ.cons ?_ ?_
    · intro b f w1 hb hw hJ K hK
      have HB := Lib.hid hb
      have HJ := Lib.hid hJ
      have HW := Lib.hid hw
      clear hJ hw hb
      try dsimp only
      rw [if_pos (by rfl)]
      obtain ⟨xg0, xg1, xg2, _⟩ := (Bx_5.out.kp HJ.out.k).cells
      go_simp
      exact hK.out _ (.agg #[.bool xs, .slice xq1 xr1 xs1, .slice xq2 xr2 xs2]) _ (by (try dsimp only) <;> simp only [Act.put, List.setIfInBounds_toArray, List.set_cons_zero, List.set_cons_succ]) (HJ.out.pureStep 3 _ HB.out (by rw [HS.out]; rfl) (by rw [HS.out]; rfl) (by rw [HS.out]; rfl) (by rw [HS.out]; rfl))
    refine StepsJ.cons ?_ ?_
    · intro b f w1 hb hw hJ K hK
      have HB := Lib.hid hb
      have HJ := Lib.hid hJ
      have HW := Lib.hid hw
      clear hJ hw hb
      try dsimp only
      rw [if_pos (by rfl)]
      go_simp
      exact hK.out _ (.int .i64 (m : Int)) _ (by (try dsimp only) <;> simp only [Act.put, List.setIfInBounds_toArray, List.set_cons_zero, List.set_cons_succ]) (HJ.out.pureStep 4 _ HB.out (by rw [HS.out]; rfl) (by rw [HS.out]; rfl) (by rw [HS.out]; rfl) (by rw [HS.out]; rfl))
    refine StepsJ.cons ?_ ?_
    · intro b f w1 hb hw hJ K hK
      have HB := Lib.hid hb
      have HJ := Lib.hid hJ
      have HW := Lib.hid hw
      clear hJ hw hb
      try dsimp only
      have e3 : f 3 = .agg #[.bool xs, .slice xq1 xr1 xs1, .slice xq2 xr2 xs2] := HJ.out.pure 3 _ (by rw [HS.out]; rfl) (HW.out 3 (by decide))
      have e4 : f 4 = .int .i64 (m : Int) := HJ.out.pure 4 _ (by rw [HS.out]; rfl) (HW.out 4 (by decide))
      simp only [e3, e4]
      rw [if_pos (by rfl)]
      go_simp
      go_at_call 52
      (with_reducible refine (C2.out _ _ (Vx_5.out.kp HJ.out.k) (Z_5.out.kp HJ.out.k)).mono ?_)
      rintro e w2 ⟨vr, rfl, hr, kk⟩
      exact hK.out _ vr _ (by (try dsimp only) <;> simp only [Act.put, List.setIfInBounds_toArray, List.set_cons_zero, List.set_cons_succ, e3, e4]) (HJ.out.callStep 5 vr _ HB.out kk hr (by rw [HS.out]; rfl) (by rw [HS.out]; rfl) (by rw [HS.out]; rfl) (by rw [HS.out]; rfl))
    refine StepsJ.cons ?_ ?_
    · intro b f w1 hb hw hJ K hK
      have HB := Lib.hid hb
      have HJ := Lib.hid hJ
      have HW := Lib.hid hw
      clear hJ hw hb
      try dsimp only
      rw [if_pos (by rfl)]
      go_simp
      exact hK.out _ _ _ (by (try dsimp only) <;> simp only [Act.put, List.setIfInBounds_toArray, List.set_cons_zero, List.set_cons_succ]) (HJ.out.allocStep 6 HB.out (by rw [HS.out]; rfl) (by rw [HS.out]; rfl) (by rw [HS.out]; rfl) (by rw [HS.out]; rfl))
    refine StepsJ.cons ?_ ?_
    · intro b f w1 hb hw hJ K hK
      have HB := Lib.hid hb
      have HJ := Lib.hid hJ
      have HW := Lib.hid hw
      clear hJ hw hb
      try dsimp only
      rw [if_pos (by rfl)]
      go_simp
      exact hK.out _ _ _ (by (try dsimp only) <;> simp only [Act.put, List.setIfInBounds_toArray, List.set_cons_zero, List.set_cons_succ]) (HJ.out.allocStep 7 HB.out (by rw [HS.out]; rfl) (by rw [HS.out]; rfl) (by rw [HS.out]; rfl) (by rw [HS.out]; rfl))
    refine StepsJ.cons ?_ ?_
    · intro b f w1 hb hw hJ K hK
      have HB := Lib.hid hb
      have HJ := Lib.hid hJ
      have HW := Lib.hid hw
      clear hJ hw hb
      try dsimp only
      rw [if_pos (by rfl)]
      obtain ⟨g, s, o1, l1, c1, o2, l2, c2, h1, h2, hr, hn⟩ := HJ.out.storeStep ⟨6, 8, 2⟩ (by rw [HS.out]; simp) (lo) (by rw [HS.out]; rfl) 8 rfl HB.out (HW.out 6 (by decide)) (HW.out 2 (by decide)) (by rw [HS.out]; rfl) (by rw [HS.out]; rfl) (by rw [HS.out]; rfl) (by rw [HS.out]; simp)
      have HN := Lib.hid hn
      obtain ⟨d0, d1, d2, f0, f1, f2⟩ := hr.cells
      clear hn hr
      simp only at h1 h2
      simp only [h1, h2]
      go_simp
      exact hK.out _ undef _ (by (try dsimp only) <;> simp only [Act.put, h1, h2]) (HN.out undef)
    refine StepsJ.cons ?_ ?_
    · intro b f w1 hb hw hJ K hK
      have HB := Lib.hid hb
      have HJ := Lib.hid hJ
      have HW := Lib.hid hw
      clear hJ hw hb
      try dsimp only
      rw [if_pos (by rfl)]
      obtain ⟨g, s, o1, l1, c1, o2, l2, c2, h1, h2, hr, hn⟩ := HJ.out.storeStep ⟨7, 9, 5⟩ (by rw [HS.out]; simp) (hi) (by rw [HS.out]; rfl) 9 rfl HB.out (HW.out 7 (by decide)) (HW.out 5 (by decide)) (by rw [HS.out]; rfl) (by rw [HS.out]; rfl) (by rw [HS.out]; rfl) (by rw [HS.out]; simp)
      have HN := Lib.hid hn
      obtain ⟨d0, d1, d2, f0, f1, f2⟩ := hr.cells
      clear hn hr
      simp only at h1 h2
      simp only [h1, h2]
      go_simp
      exact hK.out _ undef _ (by (try dsimp only) <;> simp only [Act.put, h1, h2]) (HN.out undef)
    exact StepsJ.nil
  case hend =>
    intro b f w6 hb hJ
    try dsimp only
    obtain ⟨gl, ls, lq1, lr1, ls1, lq2, lr2, ls2, el, hrl, hl⟩ := hJ.all ⟨6, 8, 2⟩ (by rw [HS.out]; simp) (lo) (by rw [HS.out]; rfl) (hb 6 (by decide)) (hb 2 (by decide)) (hb 8 (by decide))
    obtain ⟨gh, hs, hq1, hr1, hs1, hq2, hr2, hs2, eh, hrh, hh⟩ := hJ.all ⟨7, 9, 5⟩ (by rw [HS.out]; simp) (hi) (by rw [HS.out]; rfl) (hb 7 (by decide)) (hb 5 (by decide)) (hb 9 (by decide))
    simp only at el eh
    have kk := hJ.k
    clear hJ hb
    have T_6 := Lib.hid (T_5.out.kp kk)
    have Z_6 := Lib.hid (Z_5.out.kp kk)
    have Vx_6 := Lib.hid (Vx_5.out.kp kk)
    have Bx_6 := Lib.hid (Bx_5.out.kp kk)
    clear kk T_5 Z_5 Vx_5 Bx_5
    have Vl_6 := Lib.hid hl
    have Bl_6 := Lib.hid hrl
    clear hl hrl
    have Vh_6 := Lib.hid hh
    have Bh_6 := Lib.hid hrh
    clear hh hrh
    simp only [el, eh]
    clear el eh
    generalize f 0 = ya0
    generalize f 1 = ya1
    generalize f 2 = ya2
    generalize f 3 = ya3
    generalize f 4 = ya4
    generalize f 5 = ya5
    clear HS S f b
    obtain ⟨xz0, xz1, xz2⟩ := T_6.out.ra.cells
    obtain ⟨xg0, xg1, xg2, _⟩ := Bx_6.out.cells
    obtain ⟨lg0, lg1, lg2, _⟩ := Bl_6.out.cells
    obtain ⟨hg0, hg1, hg2, _⟩ := Bh_6.out.cells
    go_wp2_with (go_at_call 20; (with_reducible refine (CU.out _ Z_6.out).mono ?_); rintro e w7 ⟨vq, rfl, hq, k7⟩; refine Hid.out ?_)
    refine Lib.hid ?_
    have T_7 := Lib.hid (T_6.out.kp k7)
    have Z_7 := Lib.hid (Z_6.out.kp k7)
    have Vx_7 := Lib.hid (Vx_6.out.kp k7)
    have Bx_7 := Lib.hid (Bx_6.out.kp k7)
    have Vl_7 := Lib.hid (Vl_6.out.kp k7)
    have Bl_7 := Lib.hid (Bl_6.out.kp k7)
    have Vh_7 := Lib.hid (Vh_6.out.kp k7)
    have Bh_7 := Lib.hid (Bh_6.out.kp k7)
    clear T_6 Z_6 Vx_6 Bx_6 Vl_6 Bl_6 Vh_6 Bh_6
    clear k7
    obtain ⟨qs, qq1, qr1, qs1, qq2, qr2, qs2, rfl⟩ := hq.lit
    have Vq_l := Lib.hid hq
    have Bq_l := Lib.hid (Res.new w7 (.bool qs) (.slice qq1 qr1 qs1) (.slice qq2 qr2 qs2))
    clear hq
    have T_8 := Lib.hid (T_7.out.kp (Kp.alloc _ (Obj.cells #[Value.bool qs, Value.slice qq1 qr1 qs1, Value.slice qq2 qr2 qs2] 27)))
    have Z_8 := Lib.hid (Z_7.out.kp (Kp.alloc _ (Obj.cells #[Value.bool qs, Value.slice qq1 qr1 qs1, Value.slice qq2 qr2 qs2] 27)))
    have Vx_8 := Lib.hid (Vx_7.out.kp (Kp.alloc _ (Obj.cells #[Value.bool qs, Value.slice qq1 qr1 qs1, Value.slice qq2 qr2 qs2] 27)))
    have Bx_8 := Lib.hid (Bx_7.out.kp (Kp.alloc _ (Obj.cells #[Value.bool qs, Value.slice qq1 qr1 qs1, Value.slice qq2 qr2 qs2] 27)))
    have Vl_8 := Lib.hid (Vl_7.out.kp (Kp.alloc _ (Obj.cells #[Value.bool qs, Value.slice qq1 qr1 qs1, Value.slice qq2 qr2 qs2] 27)))
    have Bl_8 := Lib.hid (Bl_7.out.kp (Kp.alloc _ (Obj.cells #[Value.bool qs, Value.slice qq1 qr1 qs1, Value.slice qq2 qr2 qs2] 27)))
    have Vh_8 := Lib.hid (Vh_7.out.kp (Kp.alloc _ (Obj.cells #[Value.bool qs, Value.slice qq1 qr1 qs1, Value.slice qq2 qr2 qs2] 27)))
    have Bh_8 := Lib.hid (Bh_7.out.kp (Kp.alloc _ (Obj.cells #[Value.bool qs, Value.slice qq1 qr1 qs1, Value.slice qq2 qr2 qs2] 27)))
    have Vq_8 := Lib.hid (Vq_l.out.kp (Kp.alloc _ (Obj.cells #[Value.bool qs, Value.slice qq1 qr1 qs1, Value.slice qq2 qr2 qs2] 27)))
    clear T_7 Z_7 Vx_7 Bx_7 Vl_7 Bl_7 Vh_7 Bh_7 Vq_l
    obtain ⟨xz0, xz1, xz2⟩ := T_8.out.ra.cells
    obtain ⟨xg0, xg1, xg2, _⟩ := Bx_8.out.cells
    obtain ⟨lg0, lg1, lg2, _⟩ := Bl_8.out.cells
    obtain ⟨hg0, hg1, hg2, _⟩ := Bh_8.out.cells
    obtain ⟨qg0, qg1, qg2, _⟩ := Bq_l.out.cells
    go_upto_region 7 with fail
    have T_9 := Lib.hid (T_8.out.kp (Below.refl _ _).drew)
    have Z_9 := Lib.hid (Z_8.out.kp (Below.refl _ _).drew)
    have Vx_9 := Lib.hid (Vx_8.out.kp (Below.refl _ _).drew)
    have Bx_9 := Lib.hid (Bx_8.out.kp (Below.refl _ _).drew)
    have Vl_9 := Lib.hid (Vl_8.out.kp (Below.refl _ _).drew)
    have Bl_9 := Lib.hid (Bl_8.out.kp (Below.refl _ _).drew)
    have Vh_9 := Lib.hid (Vh_8.out.kp (Below.refl _ _).drew)
    have Bh_9 := Lib.hid (Bh_8.out.kp (Below.refl _ _).drew)
    have Vq_9 := Lib.hid (Vq_8.out.kp (Below.refl _ _).drew)
    have Bq_9 := Lib.hid (Bq_l.out.kp (Below.refl _ _).drew)
    clear T_8 Z_8 Vx_8 Bx_8 Vl_8 Bl_8 Vh_8 Bh_8 Vq_8 Bq_l
    obtain ⟨S, hS⟩ : ∃ S : Plan, S = ⟨[(0, .int .i64 (m : Int)), (1, .bool false), (2, .bool false), (9, .bool false)], [], [], []⟩ := ⟨_, rfl⟩
    have HS := Lib.hid hS
    clear hS
    refine' wp_region_inv (F := _) (by kernel_rfl) (by kernel_rfl) (by kernel_rfl) (PJ S _) (PJ.begin _ _ _) ?hF ?hsteps ?hend
    case hF => intro f; (try simp only [List.append]); simp only [putAll, Act.put, List.setIfInBounds_toArray, List.set_cons_zero, List.set_cons_succ, Nat.zero_add, Nat.reduceAdd]; exact rfl
    case hsteps =>
      refine StepsJ.cons ?_ ?_
      · intro b f w1 hb hw hJ K hK
        have HB := Lib.hid hb
        have HJ := Lib.hid hJ
        have HW := Lib.hid hw
        clear hJ hw hb
        try dsimp only
        rw [if_pos (by rfl)]
        go_simp
        exact hK.out _ (.int .i64 (m : Int)) _ (by (try dsimp only) <;> simp only [Act.put, List.setIfInBounds_toArray, List.set_cons_zero, List.set_cons_succ]) (HJ.out.pureStep 0 _ HB.out (by rw [HS.out]; rfl) (by rw [HS.out]; rfl) (by rw [HS.out]; rfl) (by rw [HS.out]; rfl))
      refine StepsJ.cons ?_ ?_
      · intro b f w1 hb hw hJ K hK
        have HB := Lib.hid hb
        have HJ := Lib.hid hJ
        have HW := Lib.hid hw
        clear hJ hw hb
        try dsimp only
        have e0 : f 0 = .int .i64 (m : Int) := HJ.out.pure 0 _ (by rw [HS.out]; rfl) (HW.out 0 (by decide))
        simp only [e0]
        rw [if_pos (by rfl)]
        go_simp
        exact hK.out _ (.bool false) _ (by (try dsimp only) <;> simp only [Act.put, List.setIfInBounds_toArray, List.set_cons_zero, List.set_cons_succ, e0]) (HJ.out.pureStep 1 _ HB.out (by rw [HS.out]; rfl) (by rw [HS.out]; rfl) (by rw [HS.out]; rfl) (by rw [HS.out]; rfl))
      refine StepsJ.cons ?_ ?_
      · intro b f w1 hb hw hJ K hK
        have HB := Lib.hid hb
        have HJ := Lib.hid hJ
        have HW := Lib.hid hw
        clear hJ hw hb
        try dsimp only
        have e1 : f 1 = .bool false := HJ.out.pure 1 _ (by rw [HS.out]; rfl) (HW.out 1 (by decide))
        simp only [e1]
        rw [if_pos (by rfl)]
        go_simp
        exact hK.out _ (.bool false) _ (by (try dsimp only) <;> simp only [Act.put, List.setIfInBounds_toArray, List.set_cons_zero, List.set_cons_succ, e1]) (HJ.out.pureStep 2 _ HB.out (by rw [HS.out]; rfl) (by rw [HS.out]; rfl) (by rw [HS.out]; rfl) (by rw [HS.out]; rfl))
      refine StepsJ.cons ?_ ?_
      · intro b f w1 hb hw hJ K hK
        have HB := Lib.hid hb
        have HJ := Lib.hid hJ
        have HW := Lib.hid hw
        clear hJ hw hb
        try dsimp only
        have e2 : f 2 = .bool false := HJ.out.pure 2 _ (by rw [HS.out]; rfl) (HW.out 2 (by decide))
        simp only [e2]
        rw [if_neg (by intro h; cases h)]
        exact hK.out _ undef _ (by (try dsimp only) <;> simp only [Act.put, List.setIfInBounds_toArray, List.set_cons_zero, List.set_cons_succ, e2]) (HJ.out.junkStep 3 _ HB.out (by rw [HS.out]; rfl) (by rw [HS.out]; rfl) (by rw [HS.out]; rfl) (by rw [HS.out]; rfl))
      refine StepsJ.cons ?_ ?_
      · intro b f w1 hb hw hJ K hK
        have HB := Lib.hid hb
        have HJ := Lib.hid hJ
        have HW := Lib.hid hw
        clear hJ hw hb
        try dsimp only
        have e2 : f 2 = .bool false := HJ.out.pure 2 _ (by rw [HS.out]; rfl) (HW.out 2 (by decide))
        simp only [e2]
        rw [if_neg (by intro h; cases h)]
        exact hK.out _ undef _ (by (try dsimp only) <;> simp only [Act.put, List.setIfInBounds_toArray, List.set_cons_zero, List.set_cons_succ, e2]) (HJ.out.junkStep 4 _ HB.out (by rw [HS.out]; rfl) (by rw [HS.out]; rfl) (by rw [HS.out]; rfl) (by rw [HS.out]; rfl))
      refine StepsJ.cons ?_ ?_
      · intro b f w1 hb hw hJ K hK
        have HB := Lib.hid hb
        have HJ := Lib.hid hJ
        have HW := Lib.hid hw
        clear hJ hw hb
        try dsimp only
        have e2 : f 2 = .bool false := HJ.out.pure 2 _ (by rw [HS.out]; rfl) (HW.out 2 (by decide))
        simp only [e2]
        rw [if_neg (by intro h; cases h)]
        exact hK.out _ undef _ (by (try dsimp only) <;> simp only [Act.put, List.setIfInBounds_toArray, List.set_cons_zero, List.set_cons_succ, e2]) (HJ.out.junkStep 5 _ HB.out (by rw [HS.out]; rfl) (by rw [HS.out]; rfl) (by rw [HS.out]; rfl) (by rw [HS.out]; rfl))
      refine StepsJ.cons ?_ ?_
      · intro b f w1 hb hw hJ K hK
        have HB := Lib.hid hb
        have HJ := Lib.hid hJ
        have HW := Lib.hid hw
        clear hJ hw hb
        try dsimp only
        have e2 : f 2 = .bool false := HJ.out.pure 2 _ (by rw [HS.out]; rfl) (HW.out 2 (by decide))
        simp only [e2]
        rw [if_neg (by intro h; cases h)]
        exact hK.out _ undef _ (by (try dsimp only) <;> simp only [Act.put, List.setIfInBounds_toArray, List.set_cons_zero, List.set_cons_succ, e2]) (HJ.out.junkStep 6 _ HB.out (by rw [HS.out]; rfl) (by rw [HS.out]; rfl) (by rw [HS.out]; rfl) (by rw [HS.out]; rfl))
      refine StepsJ.cons ?_ ?_
      · intro b f w1 hb hw hJ K hK
        have HB := Lib.hid hb
        have HJ := Lib.hid hJ
        have HW := Lib.hid hw
        clear hJ hw hb
        try dsimp only
        have e2 : f 2 = .bool false := HJ.out.pure 2 _ (by rw [HS.out]; rfl) (HW.out 2 (by decide))
        simp only [e2]
        rw [if_neg (by intro h; cases h)]
        exact hK.out _ undef _ (by (try dsimp only) <;> simp only [Act.put, List.setIfInBounds_toArray, List.set_cons_zero, List.set_cons_succ, e2]) (HJ.out.junkStep 7 _ HB.out (by rw [HS.out]; rfl) (by rw [HS.out]; rfl) (by rw [HS.out]; rfl) (by rw [HS.out]; rfl))
      refine StepsJ.cons ?_ ?_
      · intro b f w1 hb hw hJ K hK
        have HB := Lib.hid hb
        have HJ := Lib.hid hJ
        have HW := Lib.hid hw
        clear hJ hw hb
        try dsimp only
        have e2 : f 2 = .bool false := HJ.out.pure 2 _ (by rw [HS.out]; rfl) (HW.out 2 (by decide))
        simp only [e2]
        rw [if_neg (by intro h; cases h)]
        exact hK.out _ undef _ (by (try dsimp only) <;> simp only [Act.put, List.setIfInBounds_toArray, List.set_cons_zero, List.set_cons_succ, e2]) (HJ.out.junkStep 8 _ HB.out (by rw [HS.out]; rfl) (by rw [HS.out]; rfl) (by rw [HS.out]; rfl) (by rw [HS.out]; rfl))
      refine StepsJ.cons ?_ ?_
      · intro b f w1 hb hw hJ K hK
        have HB := Lib.hid hb
        have HJ := Lib.hid hJ
        have HW := Lib.hid hw
        clear hJ hw hb
        try dsimp only
        have e2 : f 2 = .bool false := HJ.out.pure 2 _ (by rw [HS.out]; rfl) (HW.out 2 (by decide))
        simp only [e2]
        rw [if_pos (by rfl)]
        go_simp
        exact hK.out _ (.bool false) _ (by (try dsimp only) <;> simp only [Act.put, List.setIfInBounds_toArray, List.set_cons_zero, List.set_cons_succ, e2]) (HJ.out.pureStep 9 _ HB.out (by rw [HS.out]; rfl) (by rw [HS.out]; rfl) (by rw [HS.out]; rfl) (by rw [HS.out]; rfl))
      exact StepsJ.nil
    case hend =>
      intro b f w10 hb hJ
      try dsimp only
      have e9 : f 9 = .bool false := hJ.pure 9 _ (by rw [HS.out]; rfl) (hb 9 (by decide))
      have kk := hJ.k
      clear hJ hb
      have T_10 := Lib.hid (T_9.out.kp kk)
      have Z_10 := Lib.hid (Z_9.out.kp kk)
      have Vx_10 := Lib.hid (Vx_9.out.kp kk)
      have Bx_10 := Lib.hid (Bx_9.out.kp kk)
      have Vl_10 := Lib.hid (Vl_9.out.kp kk)
      have Bl_10 := Lib.hid (Bl_9.out.kp kk)
      have Vh_10 := Lib.hid (Vh_9.out.kp kk)
      have Bh_10 := Lib.hid (Bh_9.out.kp kk)
      have Vq_10 := Lib.hid (Vq_9.out.kp kk)
      have Bq_10 := Lib.hid (Bq_9.out.kp kk)
      clear kk T_9 Z_9 Vx_9 Bx_9 Vl_9 Bl_9 Vh_9 Bh_9 Vq_9 Bq_9
      simp only [e9]
      clear e9
      generalize f 0 = yb0
      generalize f 1 = yb1
      generalize f 2 = yb2
      generalize f 3 = yb3
      generalize f 4 = yb4
      generalize f 5 = yb5
      generalize f 6 = yb6
      generalize f 7 = yb7
      generalize f 8 = yb8
      clear HS S f b
      obtain ⟨xz0, xz1, xz2⟩ := T_10.out.ra.cells
      obtain ⟨xg0, xg1, xg2, _⟩ := Bx_10.out.cells
      obtain ⟨lg0, lg1, lg2, _⟩ := Bl_10.out.cells
      obtain ⟨hg0, hg1, hg2, _⟩ := Bh_10.out.cells
      obtain ⟨qg0, qg1, qg2, _⟩ := Bq_10.out.cells
      go_upto_region 9 with fail
      have T_11 := Lib.hid (T_10.out.kp (Below.refl _ _).drew)
      have Z_11 := Lib.hid (Z_10.out.kp (Below.refl _ _).drew)
      have Vx_11 := Lib.hid (Vx_10.out.kp (Below.refl _ _).drew)
      have Bx_11 := Lib.hid (Bx_10.out.kp (Below.refl _ _).drew)
      have Vl_11 := Lib.hid (Vl_10.out.kp (Below.refl _ _).drew)
      have Bl_11 := Lib.hid (Bl_10.out.kp (Below.refl _ _).drew)
      have Vh_11 := Lib.hid (Vh_10.out.kp (Below.refl _ _).drew)
      have Bh_11 := Lib.hid (Bh_10.out.kp (Below.refl _ _).drew)
      have Vq_11 := Lib.hid (Vq_10.out.kp (Below.refl _ _).drew)
      have Bq_11 := Lib.hid (Bq_10.out.kp (Below.refl _ _).drew)
      clear T_10 Z_10 Vx_10 Bx_10 Vl_10 Bl_10 Vh_10 Bh_10 Vq_10 Bq_10
      obtain ⟨S, hS⟩ : ∃ S : Plan, S = ⟨[(0, .agg #[.bool ls, .slice lq1 lr1 ls1, .slice lq2 lr2 ls2]), (1, .agg #[.bool xs, .slice xq1 xr1 xs1, .slice xq2 xr2 xs2]), (2, .int .i64 c1), (3, .bool true), (4, .bool true), (5, .agg #[.bool xs, .slice xq1 xr1 xs1, .slice xq2 xr2 xs2]), (6, .agg #[.bool hs, .slice hq1 hr1 hs1, .slice hq2 hr2 hs2]), (7, .int .i64 c2), (8, .bool true), (9, .bool true), (10, .bool true), (11, .agg #[.bool ls, .slice lq1 lr1 ls1, .slice lq2 lr2 ls2]), (12, .agg #[.bool xs, .slice xq1 xr1 xs1, .slice xq2 xr2 xs2]), (13, .bool bs), (14, .agg #[.bool hs, .slice hq1 hr1 hs1, .slice hq2 hr2 hs2]), (15, .agg #[.bool xs, .slice xq1 xr1 xs1, .slice xq2 xr2 xs2]), (16, .bool bs), (17, .bool true), (18, .bool true), (19, .bool true), (20, .agg #[.bool ls, .slice lq1 lr1 ls1, .slice lq2 lr2 ls2]), (21, .int .i64 (m : Int)), (23, .agg #[.bool ls, .slice lq1 lr1 ls1, .slice lq2 lr2 ls2]), (24, .bool true), (25, .bool true), (26, .bool true), (27, .agg #[.bool xs, .slice xq1 xr1 xs1, .slice xq2 xr2 xs2]), (29, .agg #[.bool xs, .slice xq1 xr1 xs1, .slice xq2 xr2 xs2]), (31, .bool true), (32, .bool true), (33, .bool true), (34, .bool true), (35, .bool true), (36, .bool true)], [(22, (downR lo m)), (28, (Xx.floor : Rat)), (30, (downR Xx 0))], [], []⟩ := ⟨_, rfl⟩
      have HS := Lib.hid hS
      clear hS
      refine' wp_region_inv (F := _) (by kernel_rfl) (by kernel_rfl) (by kernel_rfl) (PJ S _) (PJ.begin _ _ _) ?hF ?hsteps ?hend
      case hF => intro f; (try simp only [List.append]); simp only [putAll, Act.put, List.setIfInBounds_toArray, List.set_cons_zero, List.set_cons_succ, Nat.zero_add, Nat.reduceAdd]; exact rfl
      case hsteps =>
        try simp only [List.append]
        refine StepsJ.cons ?_ ?_
        · intro b f w1 hb hw hJ K hK
          have HB := Lib.hid hb
          have HJ := Lib.hid hJ
          have HW := Lib.hid hw
          clear hJ hw hb
          try dsimp only
          rw [if_pos (by rfl)]
          obtain ⟨lg0, lg1, lg2, _⟩ := (Bl_11.out.kp HJ.out.k).cells
          go_simp
          exact hK.out _ (.agg #[.bool ls, .slice lq1 lr1 ls1, .slice lq2 lr2 ls2]) _ (by (try dsimp only) <;> simp only [Act.put, List.setIfInBounds_toArray, List.set_cons_zero, List.set_cons_succ]) (HJ.out.pureStep 0 _ HB.out (by rw [HS.out]; rfl) (by rw [HS.out]; rfl) (by rw [HS.out]; rfl) (by rw [HS.out]; rfl))
        refine StepsJ.cons ?_ ?_
        · intro b f w1 hb hw hJ K hK
          have HB := Lib.hid hb
          have HJ := Lib.hid hJ
          have HW := Lib.hid hw
          clear hJ hw hb
          try dsimp only
          rw [if_pos (by rfl)]
          obtain ⟨xg0, xg1, xg2, _⟩ := (Bx_11.out.kp HJ.out.k).cells
          go_simp
          exact hK.out _ (.agg #[.bool xs, .slice xq1 xr1 xs1, .slice xq2 xr2 xs2]) _ (by (try dsimp only) <;> simp only [Act.put, List.setIfInBounds_toArray, List.set_cons_zero, List.set_cons_succ]) (HJ.out.pureStep 1 _ HB.out (by rw [HS.out]; rfl) (by rw [HS.out]; rfl) (by rw [HS.out]; rfl) (by rw [HS.out]; rfl))
        refine StepsJ.cons ?_ ?_
        · intro b f w1 hb hw hJ K hK
          have HB := Lib.hid hb
          have HJ := Lib.hid hJ
          have HW := Lib.hid hw
          clear hJ hw hb
          try dsimp only
          have e0 : f 0 = .agg #[.bool ls, .slice lq1 lr1 ls1, .slice lq2 lr2 ls2] := HJ.out.pure 0 _ (by rw [HS.out]; rfl) (HW.out 0 (by decide))
          have e1 : f 1 = .agg #[.bool xs, .slice xq1 xr1 xs1, .slice xq2 xr2 xs2] := HJ.out.pure 1 _ (by rw [HS.out]; rfl) (HW.out 1 (by decide))
          simp only [e0, e1]
          rw [if_pos (by rfl)]
          go_simp
          go_at_call 34
          (with_reducible refine (C3.out _ _ _ (Vl_11.out.kp HJ.out.k) (Vx_11.out.kp HJ.out.k) (Z_11.out.kp HJ.out.k)).mono ?_)
          rintro e w2 ⟨rfl, kk⟩
          exact hK.out _ (.int .i64 c1) _ (by (try dsimp only) <;> simp only [Act.put, List.setIfInBounds_toArray, List.set_cons_zero, List.set_cons_succ, e0, e1]) ((HJ.out.later kk).pureStep 2 _ HB.out (by rw [HS.out]; rfl) (by rw [HS.out]; rfl) (by rw [HS.out]; rfl) (by rw [HS.out]; rfl))
        refine StepsJ.cons ?_ ?_
        · intro b f w1 hb hw hJ K hK
          have HB := Lib.hid hb
          have HJ := Lib.hid hJ
          have HW := Lib.hid hw
          clear hJ hw hb
          try dsimp only
          have e2 : f 2 = .int .i64 c1 := HJ.out.pure 2 _ (by rw [HS.out]; rfl) (HW.out 2 (by decide))
          simp only [e2]
          rw [if_pos (by rfl)]
          go_simp
          exact hK.out _ (.bool true) _ (by (try dsimp only) <;> simp only [Act.put, List.setIfInBounds_toArray, List.set_cons_zero, List.set_cons_succ, e2]) (HJ.out.pureStep 3 _ HB.out (by rw [HS.out]; rfl) (by rw [HS.out]; rfl) (by rw [HS.out]; rfl) (by rw [HS.out]; rfl))
        refine StepsJ.cons ?_ ?_
        · intro b f w1 hb hw hJ K hK
          have HB := Lib.hid hb
          have HJ := Lib.hid hJ
          have HW := Lib.hid hw
          clear hJ hw hb
          try dsimp only
          have e3 : f 3 = .bool true := HJ.out.pure 3 _ (by rw [HS.out]; rfl) (HW.out 3 (by decide))
          simp only [e3]
          rw [if_pos (by rfl)]
          go_simp
          exact hK.out _ (.bool true) _ (by (try dsimp only) <;> simp only [Act.put, List.setIfInBounds_toArray, List.set_cons_zero, List.set_cons_succ, e3]) (HJ.out.pureStep 4 _ HB.out (by rw [HS.out]; rfl) (by rw [HS.out]; rfl) (by rw [HS.out]; rfl) (by rw [HS.out]; rfl))
        refine StepsJ.cons ?_ ?_
        · intro b f w1 hb hw hJ K hK
          have HB := Lib.hid hb
          have HJ := Lib.hid hJ
          have HW := Lib.hid hw
          clear hJ hw hb
          try dsimp only
          have e4 : f 4 = .bool true := HJ.out.pure 4 _ (by rw [HS.out]; rfl) (HW.out 4 (by decide))
          simp only [e4]
          rw [if_pos (by rfl)]
          obtain ⟨xg0, xg1, xg2, _⟩ := (Bx_11.out.kp HJ.out.k).cells
          go_simp
          exact hK.out _ (.agg #[.bool xs, .slice xq1 xr1 xs1, .slice xq2 xr2 xs2]) _ (by (try dsimp only) <;> simp only [Act.put, List.setIfInBounds_toArray, List.set_cons_zero, List.set_cons_succ, e4]) (HJ.out.pureStep 5 _ HB.out (by rw [HS.out]; rfl) (by rw [HS.out]; rfl) (by rw [HS.out]; rfl) (by rw [HS.out]; rfl))
        refine StepsJ.cons ?_ ?_
        · intro b f w1 hb hw hJ K hK
          have HB := Lib.hid hb
          have HJ := Lib.hid hJ
          have HW := Lib.hid hw
          clear hJ hw hb
          try dsimp only
          have e4 : f 4 = .bool true := HJ.out.pure 4 _ (by rw [HS.out]; rfl) (HW.out 4 (by decide))
          simp only [e4]
          rw [if_pos (by rfl)]
          obtain ⟨hg0, hg1, hg2, _⟩ := (Bh_11.out.kp HJ.out.k).cells
          go_simp
          exact hK.out _ (.agg #[.bool hs, .slice hq1 hr1 hs1, .slice hq2 hr2 hs2]) _ (by (try dsimp only) <;> simp only [Act.put, List.setIfInBounds_toArray, List.set_cons_zero, List.set_cons_succ, e4]) (HJ.out.pureStep 6 _ HB.out (by rw [HS.out]; rfl) (by rw [HS.out]; rfl) (by rw [HS.out]; rfl) (by rw [HS.out]; rfl))
        refine StepsJ.cons ?_ ?_
        · intro b f w1 hb hw hJ K hK
          have HB := Lib.hid hb
          have HJ := Lib.hid hJ
          have HW := Lib.hid hw
          clear hJ hw hb
          try dsimp only
          have e4 : f 4 = .bool true := HJ.out.pure 4 _ (by rw [HS.out]; rfl) (HW.out 4 (by decide))
          have e5 : f 5 = .agg #[.bool xs, .slice xq1 xr1 xs1, .slice xq2 xr2 xs2] := HJ.out.pure 5 _ (by rw [HS.out]; rfl) (HW.out 5 (by decide))
          have e6 : f 6 = .agg #[.bool hs, .slice hq1 hr1 hs1, .slice hq2 hr2 hs2] := HJ.out.pure 6 _ (by rw [HS.out]; rfl) (HW.out 6 (by decide))
          simp only [e4, e5, e6]
          rw [if_pos (by rfl)]
          go_simp
          go_at_call 34
          (with_reducible refine (C4.out _ _ _ (Vx_11.out.kp HJ.out.k) (Vh_11.out.kp HJ.out.k) (Z_11.out.kp HJ.out.k)).mono ?_)
          rintro e w2 ⟨rfl, kk⟩
          exact hK.out _ (.int .i64 c2) _ (by (try dsimp only) <;> simp only [Act.put, List.setIfInBounds_toArray, List.set_cons_zero, List.set_cons_succ, e4, e5, e6]) ((HJ.out.later kk).pureStep 7 _ HB.out (by rw [HS.out]; rfl) (by rw [HS.out]; rfl) (by rw [HS.out]; rfl) (by rw [HS.out]; rfl))
        refine StepsJ.cons ?_ ?_
        · intro b f w1 hb hw hJ K hK
          have HB := Lib.hid hb
          have HJ := Lib.hid hJ
          have HW := Lib.hid hw
          clear hJ hw hb
          try dsimp only
          have e4 : f 4 = .bool true := HJ.out.pure 4 _ (by rw [HS.out]; rfl) (HW.out 4 (by decide))
          have e7 : f 7 = .int .i64 c2 := HJ.out.pure 7 _ (by rw [HS.out]; rfl) (HW.out 7 (by decide))
          simp only [e4, e7]
          rw [if_pos (by rfl)]
          go_simp
          exact hK.out _ (.bool true) _ (by (try dsimp only) <;> simp only [Act.put, List.setIfInBounds_toArray, List.set_cons_zero, List.set_cons_succ, e4, e7]) (HJ.out.pureStep 8 _ HB.out (by rw [HS.out]; rfl) (by rw [HS.out]; rfl) (by rw [HS.out]; rfl) (by rw [HS.out]; rfl))
        refine StepsJ.cons ?_ ?_
        · intro b f w1 hb hw hJ K hK
          have HB := Lib.hid hb
          have HJ := Lib.hid hJ
          have HW := Lib.hid hw
          clear hJ hw hb
          try dsimp only
          have e4 : f 4 = .bool true := HJ.out.pure 4 _ (by rw [HS.out]; rfl) (HW.out 4 (by decide))
          have e8 : f 8 = .bool true := HJ.out.pure 8 _ (by rw [HS.out]; rfl) (HW.out 8 (by decide))
          simp only [e4, e8]
          rw [if_pos (by rfl)]
          go_simp
          exact hK.out _ (.bool true) _ (by (try dsimp only) <;> simp only [Act.put, List.setIfInBounds_toArray, List.set_cons_zero, List.set_cons_succ, e4, e8]) (HJ.out.pureStep 9 _ HB.out (by rw [HS.out]; rfl) (by rw [HS.out]; rfl) (by rw [HS.out]; rfl) (by rw [HS.out]; rfl))
        refine StepsJ.cons ?_ ?_
        · intro b f w1 hb hw hJ K hK
          have HB := Lib.hid hb
          have HJ := Lib.hid hJ
          have HW := Lib.hid hw
          clear hJ hw hb
          try dsimp only
          have e9 : f 9 = .bool true := HJ.out.pure 9 _ (by rw [HS.out]; rfl) (HW.out 9 (by decide))
          simp only [e9]
          rw [if_pos (by rfl)]
          go_simp
          exact hK.out _ (.bool true) _ (by (try dsimp only) <;> simp only [Act.put, List.setIfInBounds_toArray, List.set_cons_zero, List.set_cons_succ, e9]) (HJ.out.pureStep 10 _ HB.out (by rw [HS.out]; rfl) (by rw [HS.out]; rfl) (by rw [HS.out]; rfl) (by rw [HS.out]; rfl))
        refine StepsJ.cons ?_ ?_
        · intro b f w1 hb hw hJ K hK
          have HB := Lib.hid hb
          have HJ := Lib.hid hJ
          have HW := Lib.hid hw
          clear hJ hw hb
          try dsimp only
          have e10 : f 10 = .bool true := HJ.out.pure 10 _ (by rw [HS.out]; rfl) (HW.out 10 (by decide))
          simp only [e10]
          rw [if_pos (by rfl)]
          obtain ⟨lg0, lg1, lg2, _⟩ := (Bl_11.out.kp HJ.out.k).cells
          go_simp
          exact hK.out _ (.agg #[.bool ls, .slice lq1 lr1 ls1, .slice lq2 lr2 ls2]) _ (by (try dsimp only) <;> simp only [Act.put, List.setIfInBounds_toArray, List.set_cons_zero, List.set_cons_succ, e10]) (HJ.out.pureStep 11 _ HB.out (by rw [HS.out]; rfl) (by rw [HS.out]; rfl) (by rw [HS.out]; rfl) (by rw [HS.out]; rfl))
        refine StepsJ.cons ?_ ?_
        · intro b f w1 hb hw hJ K hK
          have HB := Lib.hid hb
          have HJ := Lib.hid hJ
          have HW := Lib.hid hw
          clear hJ hw hb
          try dsimp only
          have e10 : f 10 = .bool true := HJ.out.pure 10 _ (by rw [HS.out]; rfl) (HW.out 10 (by decide))
          simp only [e10]
          rw [if_pos (by rfl)]
          obtain ⟨xg0, xg1, xg2, _⟩ := (Bx_11.out.kp HJ.out.k).cells
          go_simp
          exact hK.out _ (.agg #[.bool xs, .slice xq1 xr1 xs1, .slice xq2 xr2 xs2]) _ (by (try dsimp only) <;> simp only [Act.put, List.setIfInBounds_toArray, List.set_cons_zero, List.set_cons_succ, e10]) (HJ.out.pureStep 12 _ HB.out (by rw [HS.out]; rfl) (by rw [HS.out]; rfl) (by rw [HS.out]; rfl) (by rw [HS.out]; rfl))
        refine StepsJ.cons ?_ ?_
        · intro b f w1 hb hw hJ K hK
          have HB := Lib.hid hb
          have HJ := Lib.hid hJ
          have HW := Lib.hid hw
          clear hJ hw hb
          try dsimp only
          have e10 : f 10 = .bool true := HJ.out.pure 10 _ (by rw [HS.out]; rfl) (HW.out 10 (by decide))
          have e11 : f 11 = .agg #[.bool ls, .slice lq1 lr1 ls1, .slice lq2 lr2 ls2] := HJ.out.pure 11 _ (by rw [HS.out]; rfl) (HW.out 11 (by decide))
          have e12 : f 12 = .agg #[.bool xs, .slice xq1 xr1 xs1, .slice xq2 xr2 xs2] := HJ.out.pure 12 _ (by rw [HS.out]; rfl) (HW.out 12 (by decide))
          simp only [e10, e11, e12]
          rw [if_pos (by rfl)]
          go_simp
          go_at_call 33
          (with_reducible refine (C5.out _ _ _ (Vl_11.out.kp HJ.out.k) (Vx_11.out.kp HJ.out.k)).mono ?_)
          rintro e w2 ⟨rfl, kk⟩
          exact hK.out _ (.bool bs) _ (by (try dsimp only) <;> simp only [Act.put, List.setIfInBounds_toArray, List.set_cons_zero, List.set_cons_succ, e10, e11, e12]) ((HJ.out.later kk).pureStep 13 _ HB.out (by rw [HS.out]; rfl) (by rw [HS.out]; rfl) (by rw [HS.out]; rfl) (by rw [HS.out]; rfl))
        refine StepsJ.cons ?_ ?_
        · intro b f w1 hb hw hJ K hK
          have HB := Lib.hid hb
          have HJ := Lib.hid hJ
          have HW := Lib.hid hw
          clear hJ hw hb
          try dsimp only
          have e10 : f 10 = .bool true := HJ.out.pure 10 _ (by rw [HS.out]; rfl) (HW.out 10 (by decide))
          simp only [e10]
          rw [if_pos (by rfl)]
          obtain ⟨hg0, hg1, hg2, _⟩ := (Bh_11.out.kp HJ.out.k).cells
          go_simp
          exact hK.out _ (.agg #[.bool hs, .slice hq1 hr1 hs1, .slice hq2 hr2 hs2]) _ (by (try dsimp only) <;> simp only [Act.put, List.setIfInBounds_toArray, List.set_cons_zero, List.set_cons_succ, e10]) (HJ.out.pureStep 14 _ HB.out (by rw [HS.out]; rfl) (by rw [HS.out]; rfl) (by rw [HS.out]; rfl) (by rw [HS.out]; rfl))
        refine StepsJ.cons ?_ ?_
        · intro b f w1 hb hw hJ K hK
          have HB := Lib.hid hb
          have HJ := Lib.hid hJ
          have HW := Lib.hid hw
          clear hJ hw hb
          try dsimp only
          have e10 : f 10 = .bool true := HJ.out.pure 10 _ (by rw [HS.out]; rfl) (HW.out 10 (by decide))
          simp only [e10]
          rw [if_pos (by rfl)]
          obtain ⟨xg0, xg1, xg2, _⟩ := (Bx_11.out.kp HJ.out.k).cells
          go_simp
          exact hK.out _ (.agg #[.bool xs, .slice xq1 xr1 xs1, .slice xq2 xr2 xs2]) _ (by (try dsimp only) <;> simp only [Act.put, List.setIfInBounds_toArray, List.set_cons_zero, List.set_cons_succ, e10]) (HJ.out.pureStep 15 _ HB.out (by rw [HS.out]; rfl) (by rw [HS.out]; rfl) (by rw [HS.out]; rfl) (by rw [HS.out]; rfl))
        refine StepsJ.cons ?_ ?_
        · intro b f w1 hb hw hJ K hK
          have HB := Lib.hid hb
          have HJ := Lib.hid hJ
          have HW := Lib.hid hw
          clear hJ hw hb
          try dsimp only
          have e10 : f 10 = .bool true := HJ.out.pure 10 _ (by rw [HS.out]; rfl) (HW.out 10 (by decide))
          have e14 : f 14 = .agg #[.bool hs, .slice hq1 hr1 hs1, .slice hq2 hr2 hs2] := HJ.out.pure 14 _ (by rw [HS.out]; rfl) (HW.out 14 (by decide))
          have e15 : f 15 = .agg #[.bool xs, .slice xq1 xr1 xs1, .slice xq2 xr2 xs2] := HJ.out.pure 15 _ (by rw [HS.out]; rfl) (HW.out 15 (by decide))
          simp only [e10, e14, e15]
          rw [if_pos (by rfl)]
          go_simp
          go_at_call 33
          (with_reducible refine (C6.out _ _ _ (Vh_11.out.kp HJ.out.k) (Vx_11.out.kp HJ.out.k)).mono ?_)
          rintro e w2 ⟨rfl, kk⟩
          exact hK.out _ (.bool bs) _ (by (try dsimp only) <;> simp only [Act.put, List.setIfInBounds_toArray, List.set_cons_zero, List.set_cons_succ, e10, e14, e15]) ((HJ.out.later kk).pureStep 16 _ HB.out (by rw [HS.out]; rfl) (by rw [HS.out]; rfl) (by rw [HS.out]; rfl) (by rw [HS.out]; rfl))
        refine StepsJ.cons ?_ ?_
        · intro b f w1 hb hw hJ K hK
          have HB := Lib.hid hb
          have HJ := Lib.hid hJ
          have HW := Lib.hid hw
          clear hJ hw hb
          try dsimp only
          have e10 : f 10 = .bool true := HJ.out.pure 10 _ (by rw [HS.out]; rfl) (HW.out 10 (by decide))
          have e13 : f 13 = .bool bs := HJ.out.pure 13 _ (by rw [HS.out]; rfl) (HW.out 13 (by decide))
          have e16 : f 16 = .bool bs := HJ.out.pure 16 _ (by rw [HS.out]; rfl) (HW.out 16 (by decide))
          simp only [e10, e13, e16]
          rw [if_pos (by rfl)]
          go_simp
          exact hK.out _ (.bool true) _ (by (try dsimp only) <;> simp only [Act.put, List.setIfInBounds_toArray, List.set_cons_zero, List.set_cons_succ, e10, e13, e16]) (HJ.out.pureStep 17 _ HB.out (by rw [HS.out]; rfl) (by rw [HS.out]; rfl) (by rw [HS.out]; rfl) (by rw [HS.out]; rfl))
        refine StepsJ.cons ?_ ?_
        · intro b f w1 hb hw hJ K hK
          have HB := Lib.hid hb
          have HJ := Lib.hid hJ
          have HW := Lib.hid hw
          clear hJ hw hb
          try dsimp only
          have e10 : f 10 = .bool true := HJ.out.pure 10 _ (by rw [HS.out]; rfl) (HW.out 10 (by decide))
          have e17 : f 17 = .bool true := HJ.out.pure 17 _ (by rw [HS.out]; rfl) (HW.out 17 (by decide))
          simp only [e10, e17]
          rw [if_pos (by rfl)]
          go_simp
          exact hK.out _ (.bool true) _ (by (try dsimp only) <;> simp only [Act.put, List.setIfInBounds_toArray, List.set_cons_zero, List.set_cons_succ, e10, e17]) (HJ.out.pureStep 18 _ HB.out (by rw [HS.out]; rfl) (by rw [HS.out]; rfl) (by rw [HS.out]; rfl) (by rw [HS.out]; rfl))
        refine StepsJ.cons ?_ ?_
        · intro b f w1 hb hw hJ K hK
          have HB := Lib.hid hb
          have HJ := Lib.hid hJ
          have HW := Lib.hid hw
          clear hJ hw hb
          try dsimp only
          have e18 : f 18 = .bool true := HJ.out.pure 18 _ (by rw [HS.out]; rfl) (HW.out 18 (by decide))
          simp only [e18]
          rw [if_pos (by rfl)]
          go_simp
          exact hK.out _ (.bool true) _ (by (try dsimp only) <;> simp only [Act.put, List.setIfInBounds_toArray, List.set_cons_zero, List.set_cons_succ, e18]) (HJ.out.pureStep 19 _ HB.out (by rw [HS.out]; rfl) (by rw [HS.out]; rfl) (by rw [HS.out]; rfl) (by rw [HS.out]; rfl))
        refine StepsJ.cons ?_ ?_
        · intro b f w1 hb hw hJ K hK
          have HB := Lib.hid hb
          have HJ := Lib.hid hJ
          have HW := Lib.hid hw
          clear hJ hw hb
          try dsimp only
          have e19 : f 19 = .bool true := HJ.out.pure 19 _ (by rw [HS.out]; rfl) (HW.out 19 (by decide))
          simp only [e19]
          rw [if_pos (by rfl)]
          obtain ⟨lg0, lg1, lg2, _⟩ := (Bl_11.out.kp HJ.out.k).cells
          go_simp
          exact hK.out _ (.agg #[.bool ls, .slice lq1 lr1 ls1, .slice lq2 lr2 ls2]) _ (by (try dsimp only) <;> simp only [Act.put, List.setIfInBounds_toArray, List.set_cons_zero, List.set_cons_succ, e19]) (HJ.out.pureStep 20 _ HB.out (by rw [HS.out]; rfl) (by rw [HS.out]; rfl) (by rw [HS.out]; rfl) (by rw [HS.out]; rfl))
        refine StepsJ.cons ?_ ?_
        · intro b f w1 hb hw hJ K hK
          have HB := Lib.hid hb
          have HJ := Lib.hid hJ
          have HW := Lib.hid hw
          clear hJ hw hb
          try dsimp only
          have e19 : f 19 = .bool true := HJ.out.pure 19 _ (by rw [HS.out]; rfl) (HW.out 19 (by decide))
          simp only [e19]
          rw [if_pos (by rfl)]
          go_simp
          exact hK.out _ (.int .i64 (m : Int)) _ (by (try dsimp only) <;> simp only [Act.put, List.setIfInBounds_toArray, List.set_cons_zero, List.set_cons_succ, e19]) (HJ.out.pureStep 21 _ HB.out (by rw [HS.out]; rfl) (by rw [HS.out]; rfl) (by rw [HS.out]; rfl) (by rw [HS.out]; rfl))
        refine StepsJ.cons ?_ ?_
        · intro b f w1 hb hw hJ K hK
          have HB := Lib.hid hb
          have HJ := Lib.hid hJ
          have HW := Lib.hid hw
          clear hJ hw hb
          try dsimp only
          have e19 : f 19 = .bool true := HJ.out.pure 19 _ (by rw [HS.out]; rfl) (HW.out 19 (by decide))
          have e20 : f 20 = .agg #[.bool ls, .slice lq1 lr1 ls1, .slice lq2 lr2 ls2] := HJ.out.pure 20 _ (by rw [HS.out]; rfl) (HW.out 20 (by decide))
          have e21 : f 21 = .int .i64 (m : Int) := HJ.out.pure 21 _ (by rw [HS.out]; rfl) (HW.out 21 (by decide))
          simp only [e19, e20, e21]
          rw [if_pos (by rfl)]
          go_simp
          go_at_call 50
          (with_reducible refine (C7.out _ _ (Vl_11.out.kp HJ.out.k) (Z_11.out.kp HJ.out.k)).mono ?_)
          rintro e w2 ⟨vr, rfl, hr, kk⟩
          exact hK.out _ vr _ (by (try dsimp only) <;> simp only [Act.put, List.setIfInBounds_toArray, List.set_cons_zero, List.set_cons_succ, e19, e20, e21]) (HJ.out.callStep 22 vr _ HB.out kk hr (by rw [HS.out]; rfl) (by rw [HS.out]; rfl) (by rw [HS.out]; rfl) (by rw [HS.out]; rfl))
        refine StepsJ.cons ?_ ?_
        · intro b f w1 hb hw hJ K hK
          have HB := Lib.hid hb
          have HJ := Lib.hid hJ
          have HW := Lib.hid hw
          clear hJ hw hb
          try dsimp only
          have e19 : f 19 = .bool true := HJ.out.pure 19 _ (by rw [HS.out]; rfl) (HW.out 19 (by decide))
          simp only [e19]
          rw [if_pos (by rfl)]
          obtain ⟨lg0, lg1, lg2, _⟩ := (Bl_11.out.kp HJ.out.k).cells
          go_simp
          exact hK.out _ (.agg #[.bool ls, .slice lq1 lr1 ls1, .slice lq2 lr2 ls2]) _ (by (try dsimp only) <;> simp only [Act.put, List.setIfInBounds_toArray, List.set_cons_zero, List.set_cons_succ, e19]) (HJ.out.pureStep 23 _ HB.out (by rw [HS.out]; rfl) (by rw [HS.out]; rfl) (by rw [HS.out]; rfl) (by rw [HS.out]; rfl))
        refine StepsJ.cons ?_ ?_
        · intro b f w1 hb hw hJ K hK
          have HB := Lib.hid hb
          have HJ := Lib.hid hJ
          have HW := Lib.hid hw
          clear hJ hw hb
          try dsimp only
          have e19 : f 19 = .bool true := HJ.out.pure 19 _ (by rw [HS.out]; rfl) (HW.out 19 (by decide))
          have e23 : f 23 = .agg #[.bool ls, .slice lq1 lr1 ls1, .slice lq2 lr2 ls2] := HJ.out.pure 23 _ (by rw [HS.out]; rfl) (HW.out 23 (by decide))
          simp only [e19, e23]
          rw [if_pos (by rfl)]
          have a22 := HJ.out.call 22 _ (by rw [HS.out]; rfl) (HW.out 22 (by decide))
          have Ha22 := Lib.hid a22
          clear a22
          go_simp
          go_at_call 33
          (with_reducible refine (C8.out _ _ _ Ha22.out (Vl_11.out.kp HJ.out.k)).mono ?_)
          rintro e w2 ⟨rfl, kk⟩
          exact hK.out _ (.bool true) _ (by (try dsimp only) <;> simp only [Act.put, List.setIfInBounds_toArray, List.set_cons_zero, List.set_cons_succ, e19, e23]) ((HJ.out.later kk).pureStep 24 _ HB.out (by rw [HS.out]; rfl) (by rw [HS.out]; rfl) (by rw [HS.out]; rfl) (by rw [HS.out]; rfl))
        refine StepsJ.cons ?_ ?_
        · intro b f w1 hb hw hJ K hK
          have HB := Lib.hid hb
          have HJ := Lib.hid hJ
          have HW := Lib.hid hw
          clear hJ hw hb
          try dsimp only
          have e19 : f 19 = .bool true := HJ.out.pure 19 _ (by rw [HS.out]; rfl) (HW.out 19 (by decide))
          have e24 : f 24 = .bool true := HJ.out.pure 24 _ (by rw [HS.out]; rfl) (HW.out 24 (by decide))
          simp only [e19, e24]
          rw [if_pos (by rfl)]
          go_simp
          exact hK.out _ (.bool true) _ (by (try dsimp only) <;> simp only [Act.put, List.setIfInBounds_toArray, List.set_cons_zero, List.set_cons_succ, e19, e24]) (HJ.out.pureStep 25 _ HB.out (by rw [HS.out]; rfl) (by rw [HS.out]; rfl) (by rw [HS.out]; rfl) (by rw [HS.out]; rfl))
        refine StepsJ.cons ?_ ?_
        · intro b f w1 hb hw hJ K hK
          have HB := Lib.hid hb
          have HJ := Lib.hid hJ
          have HW := Lib.hid hw
          clear hJ hw hb
          try dsimp only
          have e25 : f 25 = .bool true := HJ.out.pure 25 _ (by rw [HS.out]; rfl) (HW.out 25 (by decide))
          simp only [e25]
          rw [if_pos (by rfl)]
          go_simp
          exact hK.out _ (.bool true) _ (by (try dsimp only) <;> simp only [Act.put, List.setIfInBounds_toArray, List.set_cons_zero, List.set_cons_succ, e25]) (HJ.out.pureStep 26 _ HB.out (by rw [HS.out]; rfl) (by rw [HS.out]; rfl) (by rw [HS.out]; rfl) (by rw [HS.out]; rfl))
        refine StepsJ.cons ?_ ?_
        · intro b f w1 hb hw hJ K hK
          have HB := Lib.hid hb
          have HJ := Lib.hid hJ
          have HW := Lib.hid hw
          clear hJ hw hb
          try dsimp only
          have e26 : f 26 = .bool true := HJ.out.pure 26 _ (by rw [HS.out]; rfl) (HW.out 26 (by decide))
          simp only [e26]
          rw [if_pos (by rfl)]
          obtain ⟨xg0, xg1, xg2, _⟩ := (Bx_11.out.kp HJ.out.k).cells
          go_simp
          exact hK.out _ (.agg #[.bool xs, .slice xq1 xr1 xs1, .slice xq2 xr2 xs2]) _ (by (try dsimp only) <;> simp only [Act.put, List.setIfInBounds_toArray, List.set_cons_zero, List.set_cons_succ, e26]) (HJ.out.pureStep 27 _ HB.out (by rw [HS.out]; rfl) (by rw [HS.out]; rfl) (by rw [HS.out]; rfl) (by rw [HS.out]; rfl))
        refine StepsJ.cons ?_ ?_
        · intro b f w1 hb hw hJ K hK
          have HB := Lib.hid hb
          have HJ := Lib.hid hJ
          have HW := Lib.hid hw
          clear hJ hw hb
          try dsimp only
          have e26 : f 26 = .bool true := HJ.out.pure 26 _ (by rw [HS.out]; rfl) (HW.out 26 (by decide))
          have e27 : f 27 = .agg #[.bool xs, .slice xq1 xr1 xs1, .slice xq2 xr2 xs2] := HJ.out.pure 27 _ (by rw [HS.out]; rfl) (HW.out 27 (by decide))
          simp only [e26, e27]
          rw [if_pos (by rfl)]
          go_simp
          go_at_call 48
          (with_reducible refine (C9.out _ _ (Vx_11.out.kp HJ.out.k) (Z_11.out.kp HJ.out.k)).mono ?_)
          rintro e w2 ⟨vr, rfl, hr, kk⟩
          exact hK.out _ vr _ (by (try dsimp only) <;> simp only [Act.put, List.setIfInBounds_toArray, List.set_cons_zero, List.set_cons_succ, e26, e27]) (HJ.out.callStep 28 vr _ HB.out kk hr (by rw [HS.out]; rfl) (by rw [HS.out]; rfl) (by rw [HS.out]; rfl) (by rw [HS.out]; rfl))
        refine StepsJ.cons ?_ ?_
        · intro b f w1 hb hw hJ K hK
          have HB := Lib.hid hb
          have HJ := Lib.hid hJ
          have HW := Lib.hid hw
          clear hJ hw hb
          try dsimp only
          have e26 : f 26 = .bool true := HJ.out.pure 26 _ (by rw [HS.out]; rfl) (HW.out 26 (by decide))
          simp only [e26]
          rw [if_pos (by rfl)]
          obtain ⟨xg0, xg1, xg2, _⟩ := (Bx_11.out.kp HJ.out.k).cells
          go_simp
          exact hK.out _ (.agg #[.bool xs, .slice xq1 xr1 xs1, .slice xq2 xr2 xs2]) _ (by (try dsimp only) <;> simp only [Act.put, List.setIfInBounds_toArray, List.set_cons_zero, List.set_cons_succ, e26]) (HJ.out.pureStep 29 _ HB.out (by rw [HS.out]; rfl) (by rw [HS.out]; rfl) (by rw [HS.out]; rfl) (by rw [HS.out]; rfl))
        refine StepsJ.cons ?_ ?_
        · intro b f w1 hb hw hJ K hK
          have HB := Lib.hid hb
          have HJ := Lib.hid hJ
          have HW := Lib.hid hw
          clear hJ hw hb
          try dsimp only
          have e26 : f 26 = .bool true := HJ.out.pure 26 _ (by rw [HS.out]; rfl) (HW.out 26 (by decide))
          have e29 : f 29 = .agg #[.bool xs, .slice xq1 xr1 xs1, .slice xq2 xr2 xs2] := HJ.out.pure 29 _ (by rw [HS.out]; rfl) (HW.out 29 (by decide))
          simp only [e26, e29]
          rw [if_pos (by rfl)]
          go_simp
          go_at_call 50
          (with_reducible refine (C10.out _ _ (Vx_11.out.kp HJ.out.k) (Z_11.out.kp HJ.out.k)).mono ?_)
          rintro e w2 ⟨vr, rfl, hr, kk⟩
          exact hK.out _ vr _ (by (try dsimp only) <;> simp only [Act.put, List.setIfInBounds_toArray, List.set_cons_zero, List.set_cons_succ, e26, e29]) (HJ.out.callStep 30 vr _ HB.out kk hr (by rw [HS.out]; rfl) (by rw [HS.out]; rfl) (by rw [HS.out]; rfl) (by rw [HS.out]; rfl))
        refine StepsJ.cons ?_ ?_
        · intro b f w1 hb hw hJ K hK
          have HB := Lib.hid hb
          have HJ := Lib.hid hJ
          have HW := Lib.hid hw
          clear hJ hw hb
          try dsimp only
          have e26 : f 26 = .bool true := HJ.out.pure 26 _ (by rw [HS.out]; rfl) (HW.out 26 (by decide))
          simp only [e26]
          rw [if_pos (by rfl)]
          have a28 := HJ.out.call 28 _ (by rw [HS.out]; rfl) (HW.out 28 (by decide))
          have a30 := HJ.out.call 30 _ (by rw [HS.out]; rfl) (HW.out 30 (by decide))
          have Ha28 := Lib.hid a28
          clear a28
          have Ha30 := Lib.hid a30
          clear a30
          go_simp
          go_at_call 33
          (with_reducible refine (C11.out _ _ _ Ha28.out Ha30.out).mono ?_)
          rintro e w2 ⟨rfl, kk⟩
          exact hK.out _ (.bool true) _ (by (try dsimp only) <;> simp only [Act.put, List.setIfInBounds_toArray, List.set_cons_zero, List.set_cons_succ, e26]) ((HJ.out.later kk).pureStep 31 _ HB.out (by rw [HS.out]; rfl) (by rw [HS.out]; rfl) (by rw [HS.out]; rfl) (by rw [HS.out]; rfl))
        refine StepsJ.cons ?_ ?_
        · intro b f w1 hb hw hJ K hK
          have HB := Lib.hid hb
          have HJ := Lib.hid hJ
          have HW := Lib.hid hw
          clear hJ hw hb
          try dsimp only
          have e26 : f 26 = .bool true := HJ.out.pure 26 _ (by rw [HS.out]; rfl) (HW.out 26 (by decide))
          have e31 : f 31 = .bool true := HJ.out.pure 31 _ (by rw [HS.out]; rfl) (HW.out 31 (by decide))
          simp only [e26, e31]
          rw [if_pos (by rfl)]
          go_simp
          exact hK.out _ (.bool true) _ (by (try dsimp only) <;> simp only [Act.put, List.setIfInBounds_toArray, List.set_cons_zero, List.set_cons_succ, e26, e31]) (HJ.out.pureStep 32 _ HB.out (by rw [HS.out]; rfl) (by rw [HS.out]; rfl) (by rw [HS.out]; rfl) (by rw [HS.out]; rfl))
        refine StepsJ.cons ?_ ?_
        · intro b f w1 hb hw hJ K hK
          have HB := Lib.hid hb
          have HJ := Lib.hid hJ
          have HW := Lib.hid hw
          clear hJ hw hb
          try dsimp only
          have e32 : f 32 = .bool true := HJ.out.pure 32 _ (by rw [HS.out]; rfl) (HW.out 32 (by decide))
          simp only [e32]
          rw [if_pos (by rfl)]
          go_simp
          exact hK.out _ (.bool true) _ (by (try dsimp only) <;> simp only [Act.put, List.setIfInBounds_toArray, List.set_cons_zero, List.set_cons_succ, e32]) (HJ.out.pureStep 33 _ HB.out (by rw [HS.out]; rfl) (by rw [HS.out]; rfl) (by rw [HS.out]; rfl) (by rw [HS.out]; rfl))
        refine StepsJ.cons ?_ ?_
        · intro b f w1 hb hw hJ K hK
          have HB := Lib.hid hb
          have HJ := Lib.hid hJ
          have HW := Lib.hid hw
          clear hJ hw hb
          try dsimp only
          have e33 : f 33 = .bool true := HJ.out.pure 33 _ (by rw [HS.out]; rfl) (HW.out 33 (by decide))
          simp only [e33]
          rw [if_pos (by rfl)]
          go_simp
          go_at_call 14
          (with_reducible refine (CAW.out _ (T_11.out.kp HJ.out.k).k (Z_11.out.kp HJ.out.k)).mono ?_)
          rintro e w2 ⟨rfl, kk⟩
          exact hK.out _ (.bool true) _ (by (try dsimp only) <;> simp only [Act.put, List.setIfInBounds_toArray, List.set_cons_zero, List.set_cons_succ, e33]) ((HJ.out.later kk).pureStep 34 _ HB.out (by rw [HS.out]; rfl) (by rw [HS.out]; rfl) (by rw [HS.out]; rfl) (by rw [HS.out]; rfl))
        refine StepsJ.cons ?_ ?_
        · intro b f w1 hb hw hJ K hK
          have HB := Lib.hid hb
          have HJ := Lib.hid hJ
          have HW := Lib.hid hw
          clear hJ hw hb
          try dsimp only
          have e33 : f 33 = .bool true := HJ.out.pure 33 _ (by rw [HS.out]; rfl) (HW.out 33 (by decide))
          have e34 : f 34 = .bool true := HJ.out.pure 34 _ (by rw [HS.out]; rfl) (HW.out 34 (by decide))
          simp only [e33, e34]
          rw [if_pos (by rfl)]
          go_simp
          exact hK.out _ (.bool true) _ (by (try dsimp only) <;> simp only [Act.put, List.setIfInBounds_toArray, List.set_cons_zero, List.set_cons_succ, e33, e34]) (HJ.out.pureStep 35 _ HB.out (by rw [HS.out]; rfl) (by rw [HS.out]; rfl) (by rw [HS.out]; rfl) (by rw [HS.out]; rfl))
        refine StepsJ.cons ?_ ?_
        · intro b f w1 hb hw hJ K hK
          have HB := Lib.hid hb
          have HJ := Lib.hid hJ
          have HW := Lib.hid hw
          clear hJ hw hb
          try dsimp only
          have e35 : f 35 = .bool true := HJ.out.pure 35 _ (by rw [HS.out]; rfl) (HW.out 35 (by decide))
          simp only [e35]
          rw [if_pos (by rfl)]
          go_simp
          exact hK.out _ (.bool true) _ (by (try dsimp only) <;> simp only [Act.put, List.setIfInBounds_toArray, List.set_cons_zero, List.set_cons_succ, e35]) (HJ.out.pureStep 36 _ HB.out (by rw [HS.out]; rfl) (by rw [HS.out]; rfl) (by rw [HS.out]; rfl) (by rw [HS.out]; rfl))
        exact StepsJ.nil
      case hend =>
        intro b f w12 hb hJ
        try dsimp only
        have e36 : f 36 = .bool true := hJ.pure 36 _ (by rw [HS.out]; rfl) (hb 36 (by decide))
        have kk := hJ.k
        clear hJ hb
        have T_12 := Lib.hid (T_11.out.kp kk)
        have Z_12 := Lib.hid (Z_11.out.kp kk)
        have Vx_12 := Lib.hid (Vx_11.out.kp kk)
        have Bx_12 := Lib.hid (Bx_11.out.kp kk)
        have Vl_12 := Lib.hid (Vl_11.out.kp kk)
        have Bl_12 := Lib.hid (Bl_11.out.kp kk)
        have Vh_12 := Lib.hid (Vh_11.out.kp kk)
        have Bh_12 := Lib.hid (Bh_11.out.kp kk)
        have Vq_12 := Lib.hid (Vq_11.out.kp kk)
        have Bq_12 := Lib.hid (Bq_11.out.kp kk)
        clear kk T_11 Z_11 Vx_11 Bx_11 Vl_11 Bl_11 Vh_11 Bh_11 Vq_11 Bq_11
        simp only [e36]
        clear e36
        generalize f 0 = yc0
        generalize f 1 = yc1
        generalize f 2 = yc2
        generalize f 3 = yc3
        generalize f 4 = yc4
        generalize f 5 = yc5
        generalize f 6 = yc6
        generalize f 7 = yc7
        generalize f 8 = yc8
        generalize f 9 = yc9
        generalize f 10 = yc10
        generalize f 11 = yc11
        generalize f 12 = yc12
        generalize f 13 = yc13
        generalize f 14 = yc14
        generalize f 15 = yc15
        generalize f 16 = yc16
        generalize f 17 = yc17
        generalize f 18 = yc18
        generalize f 19 = yc19
        generalize f 20 = yc20
        generalize f 21 = yc21
        generalize f 22 = yc22
        generalize f 23 = yc23
        generalize f 24 = yc24
        generalize f 25 = yc25
        generalize f 26 = yc26
        generalize f 27 = yc27
        generalize f 28 = yc28
        generalize f 29 = yc29
        generalize f 30 = yc30
        generalize f 31 = yc31
        generalize f 32 = yc32
        generalize f 33 = yc33
        generalize f 34 = yc34
        generalize f 35 = yc35
        clear HS S f b
        obtain ⟨xz0, xz1, xz2⟩ := T_12.out.ra.cells
        obtain ⟨xg0, xg1, xg2, _⟩ := Bx_12.out.cells
        obtain ⟨lg0, lg1, lg2, _⟩ := Bl_12.out.cells
        obtain ⟨hg0, hg1, hg2, _⟩ := Bh_12.out.cells
        obtain ⟨qg0, qg1, qg2, _⟩ := Bq_12.out.cells
        go_wp2
        go_ret
        exact ⟨rfl, T_12.out.k⟩

theorem floors_walk {w : World} {s : Bool} {a b : Value} {xs ys : List Nat} {k : Int} (ha : Rd w a xs) (hb : Rd w b ys) (hb3 : 0 ≤ k ∧ k ≤ 255) (htab : Lib.TabIs Tryz.prog w "internal/strconv.uint64pow10" .u64 Lib.pow10Tab) (hZ : Tz w) :
    Calls Tryz.prog 11 #[.agg #[.bool s, a, b], .int .u8 k] w fun e w' => e = .returned (.bool true) ∧ Kp w w' := by
  by_cases hl : xs.length ≤ 16 ∧ ys.length ≤ 16
  · by_cases h1 : (k % 64).toNat < 62
    · exact floors_low ha hb k (k % 64).toNat (by omega) (by rw [Int.tmod_eq_emod_of_nonneg (by omega)]; omega) (by omega) hb3 h1 hl htab hZ
    · exact floors_high ha hb k (k % 64).toNat (by omega) (by rw [Int.tmod_eq_emod_of_nonneg (by omega)]; omega) (by omega) hb3 h1 hl htab hZ
  · exact floors_no1 ha hb k hl htab hZ
end Go.Proofs.YtmnnnoeenfmckaaGreatDoor
