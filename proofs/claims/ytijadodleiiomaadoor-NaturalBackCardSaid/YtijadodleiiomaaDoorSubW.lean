/-
  natural.Sub, brepkernelref01.minus and Sub: by walking their texts.
-/
import Derived.Test.YtijadodleiiomaaDoorReadsW
namespace Go.Proofs.YtijadodleiiomaaDoor
open Go.RowKit

/-- What a difference borrows. -/
def bor (x s : Nat) : Nat := if x < s then 1 else 0

theorem bor_le (x s : Nat) : bor x s ≤ 1 := by unfold bor; split <;> omega

theorem subw {x s : Nat} (hx : x < 4294967296) (hs : s ≤ 4294967296) :
    IntKind.u64.wrap ((x : Int) - (s : Int)) % 4294967296 = (((x + 4294967296 * bor x s - s : Nat)) : Int) ∧ IntKind.u64.wrap ((x : Int) - (s : Int)) / 9223372036854775808 = ((bor x s : Nat) : Int) ∧ x + 4294967296 * bor x s - s < 4294967296 ∧
    x + 4294967296 * bor x s = (x + 4294967296 * bor x s - s) + s := by
  unfold bor
  rw [IntKind.wrap_u64]
  split <;> omega

theorem subw2 {x c y : Nat} : IntKind.u64.wrap (IntKind.u64.wrap ((x : Int) - (c : Int)) - (y : Int)) = IntKind.u64.wrap ((x : Int) - ((c + y : Nat) : Int)) := by
  rw [IntKind.wrap_u64, IntKind.wrap_u64, IntKind.wrap_u64]
  omega

/-- One step of a difference. -/
theorem sub_step {O X ys : List Nat} {k c x y d b : Nat} (hk : k < O.length) (hv : val (X.take k) + 4294967296 ^ k * c = val (O.take k) + val (ys.take k)) (hx : x = X.getD k 0) (hy : y = ys.getD k 0) (hd : x + 4294967296 * b = d + (c + y)) :
    val (X.take (k + 1)) + 4294967296 ^ (k + 1) * b = val ((O.set k d).take (k + 1)) + val (ys.take (k + 1)) := by
  rw [val_set_take _ _ _ hk, val_take_next X, val_take_next ys, ← hx, ← hy, powB k, Nat.mul_assoc]
  have e : 4294967296 ^ k * x + 4294967296 ^ k * (4294967296 * b) = 4294967296 ^ k * d + 4294967296 ^ k * c + 4294967296 ^ k * y := by
    rw [← Nat.mul_add, hd, Nat.mul_add, Nat.mul_add, Nat.add_assoc]
  omega

theorem sub_fin {O X ys : List Nat} {c : Nat} (hO : O.length = X.length) (hL : Limbs O) (hyl : ys.length ≤ X.length) (hle : val ys ≤ val X) (hv : val (X.take X.length) + 4294967296 ^ X.length * c = val (O.take X.length) + val (ys.take X.length)) : val O = val X - val ys := by
  rw [List.take_of_length_le (Nat.le_refl _), List.take_of_length_le (by omega), List.take_of_length_le hyl] at hv
  have h1 := val_lt hL
  rw [hO] at h1
  rcases Nat.eq_zero_or_pos c with h | h
  · subst h
    omega
  · have := Nat.mul_le_mul_left (4294967296 ^ X.length) h
    rw [Nat.mul_one] at this
    omega

theorem getD_past (ys : List Nat) (k : Nat) (h : ¬ k < ys.length) : 0 = ys.getD k 0 := by simp [List.getD, List.getElem?_eq_none (Nat.le_of_not_lt h)]

theorem drop_getD {O X : List Nat} {k : Nat} (h : O.drop k = X.drop k) : O.getD k 0 = X.getD k 0 := by
  have h1 : (O.drop k)[0]? = (X.drop k)[0]? := by rw [h]
  simp only [List.getElem?_drop, Nat.add_zero] at h1
  simp [List.getD, h1]

set_option maxHeartbeats 1000000 in
theorem sub_core (a b : Value) (X ys : List Nat) (w : World) (ha : Rd w a X) (hb : Rd w b ys) (hl : X.length ≤ 1099511627776) (ht : trimL X = X) (hyl : ys.length ≤ X.length) (hle : val ys ≤ val X) :
    Calls Tryd.prog 23 #[a, b] w fun e w' => ∃ v', e = .returned (.tuple #[v', .int .i64 0]) ∧ Rd w' v' (toL (val X - val ys)) ∧ Kp w w' := by
  have hC := Lib.hid (cmp_any a b _ _ w ha hb)
  have hlt : decide (cmpv (val X) (val ys) < 0) = false := by
    apply decide_eq_false
    unfold cmpv
    rw [if_neg (by omega)]
    split <;> omega
  have HLm : Hid (Limbs X) := by obtain ⟨_, _, _, _, _, h, _⟩ := ha; exact Lib.hid h
  obtain ⟨bo, bc, rfl, b1, b2, b3, b4⟩ := hb
  have B3 := Lib.hid b3
  have HTT := Lib.hid ht
  have HA := Lib.hid ha
  have HLE := Lib.hid hle
  unfold maxLen at b2
  clear ha b3 ht hle
  obtain ⟨cv, hcv⟩ : ∃ cv, cv = cmpv (val X) (val ys) := ⟨_, rfl⟩
  rw [← hcv] at hC hlt
  clear hcv
  go_enter Tryd.func23, Tryd.ntmps23
  go_wp2_with (go_at_call 16; refine hC.out.mono ?_; rintro e w1 ⟨rfl, K1⟩; refine Hid.out ?_)
  refine Lib.hid ?_
  have HCP := Lib.hid (copied_any a _ w1 (HA.out.kp K1) hl)
  rw [HTT.out] at HCP
  go_wp2_with (go_at_call 44; refine HCP.out.mono ?_; rintro e w2 ⟨g, hg, rfl, hO2, K2⟩; have HO2 := Lib.hid hO2; clear hO2)
  have hgw : w.heap.size ≤ g := Nat.le_trans K1.size hg
  have K12 : Kp w w2 := K1.tr K2
  go_loopw [7, 19] (fun cv i wr => ∃ (k c : Nat) (O : List Nat), k ≤ X.length ∧ i = .int .i64 k ∧ cv = .int .u64 c ∧ c ≤ 1 ∧ Own wr 45 g O ∧ O.length = X.length ∧ Limbs O ∧ O.drop k = X.drop k ∧
    val (X.take k) + 4294967296 ^ k * c = val (O.take k) + val (ys.take k) ∧ Kp w wr) (fun _ i _ => X.length - (intOf i).toNat)
  case atStart => exact ⟨0, 0, X, Nat.zero_le _, rfl, rfl, by omega, HO2.out, rfl, HLm.out, rfl, by simp [val], K12⟩
  case round =>
    obtain ⟨k, c, O, hk, rfl, rfl, hc, hO, hOl, hOL, hOd, hval, K3⟩ := hrel
    have HO := Lib.hid hO
    have HOl := Lib.hid hOl
    have HOL := Lib.hid hOL
    have HOd := Lib.hid hOd
    have HV := Lib.hid hval
    clear hO hOl hOL hOd hval
    by_cases hk1 : k < X.length
    · obtain ⟨x, hcell, hx, HX⟩ := HO.out.at HOL.out k (by rw [HOl.out]; exact hk1)
      have hfz := HO.out.frozen k
      have hxX : x = X.getD k 0 := by rw [HX.out, drop_getD HOd.out]
      have HXX := Lib.hid hxX
      clear hxX
      by_cases hk2 : k < ys.length
      · obtain ⟨bb, boff, y, rfl, hcell2, hy, HY⟩ := (b4.kp K3).at B3.out k hk2
        have HS := Lib.hid (subw (s := c + y) hx (by omega))
        have HS2 := Lib.hid (@subw2 x c y)
        go_wp2
        rw [HS2.out, HS.out.1, HS.out.2.1]
        go_roundw
        case rel => exact ⟨k + 1, bor x (c + y), O.set k (x + 4294967296 * bor x (c + y) - (c + y)), by omega, by go_num, rfl, bor_le _ _, HO.out.set k _, by rw [List.length_set]; exact HOl.out, HOL.out.set _ _ HS.out.2.2.1, drop_next HOd.out _, sub_step (by rw [HOl.out]; exact hk1) HV.out HXX.out HY.out HS.out.2.2.2, K3.setCell hgw _⟩
        case measure => simp [intOf]; omega
      · have HS := Lib.hid (subw (s := c) hx (by omega))
        have hy0 := Lib.hid (getD_past ys k hk2)
        go_wp2
        rw [HS.out.1, HS.out.2.1]
        go_roundw
        case rel => exact ⟨k + 1, bor x c, O.set k (x + 4294967296 * bor x c - c), by omega, by go_num, rfl, bor_le _ _, HO.out.set k _, by rw [List.length_set]; exact HOl.out, HOL.out.set _ _ HS.out.2.2.1, drop_next HOd.out _, sub_step (by rw [HOl.out]; exact hk1) HV.out HXX.out hy0.out HS.out.2.2.2, K3.setCell hgw _⟩
        case measure => simp [intOf]; omega
    · obtain rfl : k = X.length := by omega
      have HF := Lib.hid (sub_fin HOl.out HOL.out hyl HLE.out HV.out)
      have HTR := Lib.hid (ntrim_of (some ⟨g, 0, none⟩) X.length X.length O wr HOl.out (Nat.le_refl _) (by unfold maxLen; omega) HO.out.sl)
      go_wp2_with (go_at_call 40; refine HTR.out.mono ?_; rintro e w4 ⟨rfl, rfl⟩)
      go_ret2
      exact ⟨_, rfl, HO.out.mag HOL.out _ _ HF.out (by rw [HOl.out]; exact Nat.le_refl _) (by unfold maxLen; omega), K3⟩

/-- natural.Sub of two magnitudes, the second not greater. -/
theorem sub_any (a b : Value) (m n : Nat) (w : World) (ha : M w a m) (hb : M w b n) (hl : (toL m).length ≤ 1099511627776) (hmn : n ≤ m) :
    Calls Tryd.prog 23 #[a, b] w fun e w' => ∃ v', e = .returned (.tuple #[v', .int .i64 0]) ∧ M w' v' (m - n) ∧ Kp w w' := by
  have := sub_core a b _ _ w ha hb hl (trimL_toL m) (length_mono _ _ hmn) (by rw [val_toL, val_toL]; exact hmn)
  rw [val_toL, val_toL] at this
  exact this

/-- natural.Sub of two magnitudes, the second greater: the error. -/
theorem sub_less (a b : Value) (m n : Nat) (w : World) (ha : M w a m) (hb : M w b n) (hmn : m < n) :
    Calls Tryd.prog 23 #[a, b] w fun e w' => e = .returned (.tuple #[.slice none 0 0, .int .i64 7]) ∧ Kp w w' := by
  have hC := Lib.hid (cmp_any a b _ _ w ha hb)
  rw [val_toL, val_toL, cmpv_lt hmn] at hC
  clear ha hb hmn
  go_enter Tryd.func23, Tryd.ntmps23
  go_wp2_with (go_at_call 16; refine hC.out.mono ?_; rintro e w1 ⟨rfl, K1⟩)
  go_ret2
  exact ⟨rfl, K1⟩

set_option maxRecDepth 20000 in
set_option maxHeartbeats 1000000 in
theorem minus_core (a b : Value) (X ys : List Nat) (w : World) (ha : Rd w a X) (hb : Rd w b ys) (hl : X.length ≤ 1099511627776) (hyl : ys.length ≤ X.length) (hle : val ys ≤ val X) :
    Calls Tryd.prog 45 #[a, b] w fun e w' => ∃ v', e = .returned v' ∧ Rd w' v' (toL (val X - val ys)) ∧ Kp w w' := by
  obtain ⟨i0, hi, hz0, hz1, hz2⟩ := info_parts infoU32
  obtain ⟨ao, ac, rfl, a1, a2, a3, a4⟩ := ha
  obtain ⟨bo, bc, rfl, b1, b2, b3, b4⟩ := hb
  have A3 := Lib.hid a3
  have B3 := Lib.hid b3
  have HLE := Lib.hid hle
  unfold maxLen at a2 b2
  clear a3 b3 hle
  go_enter Tryd.func45, Tryd.ntmps45
  go_wp2_with (at_make; refine wpList_make_full _ rfl _ _ 22 rfl w.heap.size 45 i0 (.int .u32 0) 1 undU32s hi hz0 hz1 _ _ _ _ X.length rfl rfl rfl rfl (by rw [hz2]; omega) (by unfold maxLen; omega) (Nat.le_refl _) ?_; intro w1 hown hg; have O1 := Lib.hid (Own.of_make hown); have K1 := (Below.refl w.heap.size w).grown hg (Nat.le_refl _) (by intro j hj; cases hj); clear hown hg)
  go_loopw [6, 7] (fun cv i wr => ∃ (k c : Nat) (O : List Nat), k ≤ X.length ∧ i = .int .i64 k ∧ cv = .int .u64 c ∧ c ≤ 1 ∧ Own wr 45 w.heap.size O ∧ O.length = X.length ∧ Limbs O ∧
    val (X.take k) + 4294967296 ^ k * c = val (O.take k) + val (ys.take k) ∧ Kp w wr) (fun _ i _ => X.length - (intOf i).toNat)
  case atStart => exact ⟨0, 0, List.replicate X.length 0, Nat.zero_le _, rfl, rfl, by omega, O1.out, by simp, Limbs.replicate _, by simp [val], K1⟩
  case round =>
    obtain ⟨k, c, O, hk, rfl, rfl, hc, hO, hOl, hOL, hval, K3⟩ := hrel
    have HO := Lib.hid hO
    have HOl := Lib.hid hOl
    have HOL := Lib.hid hOL
    have HV := Lib.hid hval
    clear hO hOl hOL hval
    by_cases hk1 : k < X.length
    · obtain ⟨ab, aoff, x, rfl, hcell, hx, HX⟩ := (a4.kp K3).at A3.out k hk1
      obtain ⟨o, hcl, _, _⟩ := HO.out.at HOL.out k (by rw [HOl.out]; exact hk1)
      have hfz := HO.out.frozen k
      by_cases hk2 : k < ys.length
      · obtain ⟨bb, boff, y, rfl, hcell2, hy, HY⟩ := (b4.kp K3).at B3.out k hk2
        by_cases hlt : x < c + y
        · go_wp2
          go_roundw
          case rel => exact ⟨k + 1, 1, O.set k (x + 4294967296 - (c + y)), by omega, by go_num, rfl, by omega, by
            have h := HO.out.set k (x + 4294967296 - (c + y))
            rw [show (((x + 4294967296 - (c + y) : Nat)) : Int) = (x : Int) + 4294967296 - ((c : Int) + y) by omega] at h
            exact h, by rw [List.length_set]; exact HOl.out, HOL.out.set _ _ (by omega), sub_step (by rw [HOl.out]; exact hk1) HV.out HX.out HY.out (by omega), K3.setCell (Nat.le_refl _) _⟩
          case measure => simp [intOf]; omega
        · go_wp2
          go_roundw
          case rel => exact ⟨k + 1, 0, O.set k (x - (c + y)), by omega, by go_num, rfl, by omega, by
            have h := HO.out.set k (x - (c + y))
            rw [show (((x - (c + y) : Nat)) : Int) = (x : Int) - ((c : Int) + y) by omega] at h
            exact h, by rw [List.length_set]; exact HOl.out, HOL.out.set _ _ (by omega), sub_step (by rw [HOl.out]; exact hk1) HV.out HX.out HY.out (by omega), K3.setCell (Nat.le_refl _) _⟩
          case measure => simp [intOf]; omega
      · have hy0 := Lib.hid (getD_past ys k hk2)
        by_cases hlt : x < c
        · go_wp2
          go_roundw
          case rel => exact ⟨k + 1, 1, O.set k (x + 4294967296 - c), by omega, by go_num, rfl, by omega, by
            have h := HO.out.set k (x + 4294967296 - c)
            rw [show (((x + 4294967296 - c : Nat)) : Int) = (x : Int) + 4294967296 - (c : Int) by omega] at h
            exact h, by rw [List.length_set]; exact HOl.out, HOL.out.set _ _ (by omega), sub_step (by rw [HOl.out]; exact hk1) HV.out HX.out hy0.out (by omega), K3.setCell (Nat.le_refl _) _⟩
          case measure => simp [intOf]; omega
        · go_wp2
          go_roundw
          case rel => exact ⟨k + 1, 0, O.set k (x - c), by omega, by go_num, rfl, by omega, by
            have h := HO.out.set k (x - c)
            rw [show (((x - c : Nat)) : Int) = (x : Int) - (c : Int) by omega] at h
            exact h, by rw [List.length_set]; exact HOl.out, HOL.out.set _ _ (by omega), sub_step (by rw [HOl.out]; exact hk1) HV.out HX.out hy0.out (by omega), K3.setCell (Nat.le_refl _) _⟩
          case measure => simp [intOf]; omega
    · obtain rfl : k = X.length := by omega
      have HF := Lib.hid (sub_fin HOl.out HOL.out hyl HLE.out HV.out)
      have HRd := HO.out.rd HOL.out X.length (by rw [HOl.out]; exact Nat.le_refl _) X.length (Nat.le_refl _) (by unfold maxLen; omega)
      rw [List.take_of_length_le (by rw [HOl.out]; exact Nat.le_refl _)] at HRd
      have HTR := Lib.hid (trim_any _ O wr HRd (by rw [HOl.out]; exact hl))
      have ht := toL_val HOL.out
      rw [HF.out] at ht
      rw [← ht] at HTR
      clear ht HRd
      go_wp2_with (go_at_call 39; refine HTR.out.mono ?_; rintro e w4 ⟨v4, rfl, h4, K4⟩)
      go_ret
      exact ⟨_, rfl, h4, K3.tr K4⟩

theorem rsub_any (a b : Value) (m n : Nat) (w : World) (ha : M w a m) (hb : M w b n) (hl : (toL m).length ≤ 1099511627776) (hmn : n ≤ m) :
    Calls Tryd.prog 24 #[a, b] w fun e w' => ∃ v', e = .returned (.tuple #[v', .int .i64 0]) ∧ M w' v' (m - n) ∧ Kp w w' := by
  have hC := Lib.hid (rcmp_any a b _ _ w ha hb)
  have hlt : decide (cmpv m n < 0) = false := by
    apply decide_eq_false
    unfold cmpv
    rw [if_neg (by omega)]
    split <;> omega
  obtain ⟨cv, hcv⟩ : ∃ cv, cv = cmpv m n := ⟨_, rfl⟩
  rw [← hcv] at hC hlt
  have hm : ∀ w1, Kp w w1 → Calls Tryd.prog 45 #[a, b] w1 fun e w' => ∃ v', e = .returned v' ∧ M w' v' (m - n) ∧ Kp w1 w' := by
    intro w1 k1
    have := minus_core a b _ _ w1 (ha.kp k1) (hb.kp k1) hl (length_mono _ _ hmn) (by rw [val_toL, val_toL]; exact hmn)
    rw [val_toL, val_toL] at this
    exact this
  have HM := Lib.hid hm
  clear hcv ha hb hmn hm
  go_enter Tryd.func24, Tryd.ntmps24
  go_wp2_with (go_at_call 17; refine hC.out.mono ?_; rintro e w1 ⟨rfl, K1⟩; refine Hid.out ?_)
  refine Lib.hid ?_
  have HM1 := Lib.hid (HM.out w1 K1)
  go_wp2_with (go_at_call 45; refine HM1.out.mono ?_; rintro e w2 ⟨v2, rfl, h2, K2⟩)
  go_ret2
  exact ⟨_, rfl, h2, K1.tr K2⟩

theorem rsub_less (a b : Value) (m n : Nat) (w : World) (ha : M w a m) (hb : M w b n) (hmn : m < n) :
    Calls Tryd.prog 24 #[a, b] w fun e w' => e = .returned (.tuple #[.slice none 0 0, .int .i64 7]) ∧ Kp w w' := by
  have hC := Lib.hid (rcmp_any a b _ _ w ha hb)
  rw [cmpv_lt hmn] at hC
  clear ha hb hmn
  go_enter Tryd.func24, Tryd.ntmps24
  go_wp2_with (go_at_call 17; refine hC.out.mono ?_; rintro e w1 ⟨rfl, K1⟩)
  go_ret2
  exact ⟨rfl, K1⟩
end Go.Proofs.YtijadodleiiomaaDoor
