/-
  brepkernelref01.Add and Mul: by walking their texts.
-/
import Derived.Test.YtijadodleiiomaaDoorSubW
namespace Go.Proofs.YtijadodleiiomaaDoor
open Go.RowKit

/-- A list of limbs that is no longer than its number's is the number's. -/
theorem eq_toL {O : List Nat} {n : Nat} (hL : Limbs O) (hv : val O = n) (hl : O.length ≤ (toL n).length) : O = toL n := by
  subst hv
  rw [toL_val hL] at hl ⊢
  have h1 := length_trimL O
  have h2 := trimL_take O
  rw [List.take_of_length_le hl] at h2
  exact h2

theorem len_ge {n k : Nat} (h : 0 < k → 4294967296 ^ (k - 1) ≤ n) : k ≤ (toL n).length := by
  rcases Nat.eq_zero_or_pos k with e | e
  · omega
  · have h1 := h e
    have h2 := toL_lt n
    have h3 : k - 1 < (toL n).length := by
      rcases Nat.lt_or_ge (k - 1) (toL n).length with h4 | h4
      · exact h4
      · have := Nat.pow_le_pow_right (show 0 < 4294967296 by omega) h4
        omega
    omega

theorem pow_le_of_len {m k : Nat} (h : k < (toL m).length) : 4294967296 ^ k ≤ m := by
  have h0 : m ≠ 0 := by
    intro e
    rw [e, toL_zero] at h
    simp at h
  have h1 := toL_last m h0
  exact Nat.le_trans (Nat.pow_le_pow_right (by omega) (by omega)) h1

/-- A step of a sum that is appended. -/
theorem add_app {O X Y : List Nat} {k c x y : Nat} (hl : O.length = k) (hv : val O + 4294967296 ^ k * c = val (X.take k) + val (Y.take k)) (hx : x = X.getD k 0) (hy : y = Y.getD k 0) :
    val (O ++ [(c + x + y) % 4294967296]) + 4294967296 ^ (k + 1) * ((c + x + y) / 4294967296) = val (X.take (k + 1)) + val (Y.take (k + 1)) := by
  rw [val_snoc, hl, val_take_next X, val_take_next Y, ← hx, ← hy, powB k, Nat.mul_assoc]
  have e : 4294967296 ^ k * ((c + x + y) % 4294967296) + 4294967296 ^ k * (4294967296 * ((c + x + y) / 4294967296)) = 4294967296 ^ k * c + 4294967296 ^ k * x + 4294967296 ^ k * y := by
    rw [← Nat.mul_add, Nat.mod_add_div, Nat.mul_add, Nat.mul_add]
  omega

theorem val_take_le (X : List Nat) (k : Nat) : val (X.take k) ≤ val X := by
  conv => rhs; rw [← List.take_append_drop k X, val_append]
  omega

theorem carry_le {O X Y : List Nat} {k c : Nat} (hv : val O + 4294967296 ^ k * c = val (X.take k) + val (Y.take k)) (hc : 0 < c) : 4294967296 ^ k ≤ val X + val Y := by
  have h1 := val_take_le X k
  have h2 := val_take_le Y k
  have h3 := Nat.mul_le_mul_left (4294967296 ^ k) hc
  rw [Nat.mul_one] at h3
  omega

theorem add_one {O X Y : List Nat} {k : Nat} (hl : O.length = k) (hv : val O + 4294967296 ^ k * 1 = val (X.take k) + val (Y.take k)) (hx : 0 = X.getD k 0) (hy : 0 = Y.getD k 0) :
    val (O ++ [1]) + 4294967296 ^ (k + 1) * 0 = val (X.take (k + 1)) + val (Y.take (k + 1)) := by
  have := add_app hl hv hx hy
  rwa [show (1 + 0 + 0) % 4294967296 = 1 from rfl, show (1 + 0 + 0) / 4294967296 = 0 from rfl] at this

/-- Past both lists by more than one limb nothing is carried. -/
theorem carry_stop {O X Y : List Nat} {k c : Nat} (_hO : Limbs O) (hl : O.length = k) (hX : Limbs X) (hY : Limbs Y) (h1 : X.length + 1 ≤ k) (h2 : Y.length + 1 ≤ k) (hv : val O + 4294967296 ^ k * c = val (X.take k) + val (Y.take k)) : c = 0 := by
  rw [List.take_of_length_le (by omega), List.take_of_length_le (by omega)] at hv
  obtain ⟨j, rfl⟩ : ∃ j, k = j + 1 := ⟨k - 1, by omega⟩
  have b1 := val_lt hX
  have b2 := val_lt hY
  have p1 : 4294967296 ^ X.length ≤ 4294967296 ^ j := Nat.pow_le_pow_right (by omega) (by omega)
  have p2 : 4294967296 ^ Y.length ≤ 4294967296 ^ j := Nat.pow_le_pow_right (by omega) (by omega)
  rcases Nat.eq_zero_or_pos c with h | h
  · exact h
  · have h3 := Nat.mul_le_mul_left (4294967296 ^ (j + 1)) h
    rw [Nat.mul_one, powB j] at h3
    rw [powB j] at hv
    generalize 4294967296 ^ j = B at *
    generalize 4294967296 ^ X.length = B1 at *
    generalize 4294967296 ^ Y.length = B2 at *
    omega

theorem cells_snoc (O : List Nat) (x : Nat) : cellsOf O ++ cellsOf [x] = cellsOf (O ++ [x]) := by simp [cellsOf]

set_option maxHeartbeats 2000000 in
theorem radd_core (a b : Value) (X Y : List Nat) (w : World) (ha : Rd w a X) (hb : Rd w b Y) (hl1 : X.length ≤ 1099511627776) (hl2 : Y.length ≤ 1099511627776)
    (hpx : ∀ k, k < X.length → 4294967296 ^ k ≤ val X) (hpy : ∀ k, k < Y.length → 4294967296 ^ k ≤ val Y) :
    Calls Tryd.prog 26 #[a, b] w fun e w' => ∃ v', e = .returned v' ∧ Rd w' v' (toL (val X + val Y)) ∧ Kp w w' := by
  obtain ⟨i0, hi, hz0, hz1, hz2⟩ := info_parts infoU32
  obtain ⟨ao, ac, rfl, a1, a2, a3, a4⟩ := ha
  obtain ⟨bo, bc, rfl, b1, b2, b3, b4⟩ := hb
  have A3 := Lib.hid a3
  have B3 := Lib.hid b3
  have HPX := Lib.hid hpx
  have HPY := Lib.hid hpy
  unfold maxLen at a2 b2
  clear a3 b3 hpx hpy
  go_enter Tryd.func26, Tryd.ntmps26
  go_wp2
  go_loopw [5, 6, 7] (fun ov cv i wr => ∃ (k c : Nat) (O : List Nat), i = .int .i64 k ∧ cv = .int .u64 c ∧ c ≤ 1 ∧ k ≤ X.length + Y.length + 1 ∧ wr.ownsRow w.heap.size 45 1 ov k (cellsOf O) ∧ O.length = k ∧ Limbs O ∧
    val O + 4294967296 ^ k * c = val (X.take k) + val (Y.take k) ∧ (0 < k → 4294967296 ^ (k - 1) ≤ val X + val Y) ∧ Kp w wr) (fun _ _ i _ => X.length + Y.length + 2 - (intOf i).toNat)
  case atStart => exact ⟨0, 0, [], rfl, rfl, by omega, by omega, World.ownsRow_nil _ _ _ _, rfl, Limbs.nil, by simp [val], fun h => absurd h (by omega), Below.refl _ _⟩
  case round =>
    obtain ⟨k, c, O, rfl, rfl, hc, hk, hO, hOl, hOL, hval, hp, K3⟩ := hrel
    have HO := Lib.hid hO
    have HOl := Lib.hid hOl
    have HOL := Lib.hid hOL
    have HV := Lib.hid hval
    have HP := Lib.hid hp
    clear hO hOl hOL hval hp
    by_cases hkx : k < X.length
    · obtain ⟨ab, aoff, x, rfl, hcell, hx, HX⟩ := (a4.kp K3).at A3.out k hkx
      have hkm : k < X.length + Y.length + 1 := by omega
      by_cases hky : k < Y.length
      · obtain ⟨bb, boff, y, rfl, hcell2, hy, HY⟩ := (b4.kp K3).at B3.out k hky
        have HG := Lib.hid (show 4294967296 ^ k ≤ val X + val Y from Nat.le_trans (HPX.out k hkx) (Nat.le_add_right _ _))
        have HO2 := Lib.hid (HO.out.alloc (.cells #[.int .u32 (((c + x + y) % 4294967296 : Nat) : Int)] 45))
        have HSRC := Lib.hid (src_one wr 45 ((c + x + y) % 4294967296))
        go_wp2_with (at_builtin; refine wpList_append_src _ rfl (.tmp 46) (.tmp 49) 22 rfl w.heap.size 45 i0 (.int .u32 0) 1 4 undU32s hi hz0 hz1 hz2 rfl (by decide) u5 k (cellsOf O) rfl HO2.out (some ⟨wr.heap.size, 0, none⟩) 1 1 (cellsOf [(c + x + y) % 4294967296]) rfl rfl HSRC.out (cellsOf_one _) (by unfold maxLen; omega) (by omega) (by have := K3.size; simp; omega) ?_; intro v' w3 hown' hg3 _; refine Hid.out ?_)
        refine Lib.hid ?_
        rw [cells_snoc] at hown'
        have HO3 := Lib.hid hown'
        have K4 : Kp w w3 := (K3.tr (Kp.alloc wr _)).grown hg3 (by have := K3.size; simp; omega) (fun b hb => (HO.out.lt b hb).1)
        clear hown' hg3
        go_wp2
        go_roundw
        case rel => exact ⟨k + 1, (c + x + y) / 4294967296, O ++ [(c + x + y) % 4294967296], by go_num, by go_num, by omega, by omega, HO3.out, by rw [List.length_append, HOl.out]; rfl, HOL.out.append (Limbs.cons (by omega) Limbs.nil), add_app HOl.out HV.out HX.out HY.out, fun _ => HG.out, K4⟩
        case measure => simp [intOf]; omega
      · have HY := Lib.hid (getD_past Y k hky)
        have HG := Lib.hid (show 4294967296 ^ k ≤ val X + val Y from Nat.le_trans (HPX.out k hkx) (Nat.le_add_right _ _))
        have HO2 := Lib.hid (HO.out.alloc (.cells #[.int .u32 (((c + x) % 4294967296 : Nat) : Int)] 45))
        have HSRC := Lib.hid (src_one wr 45 ((c + x) % 4294967296))
        go_wp2_with (at_builtin; refine wpList_append_src _ rfl (.tmp 46) (.tmp 49) 22 rfl w.heap.size 45 i0 (.int .u32 0) 1 4 undU32s hi hz0 hz1 hz2 rfl (by decide) u5 k (cellsOf O) rfl HO2.out (some ⟨wr.heap.size, 0, none⟩) 1 1 (cellsOf [(c + x) % 4294967296]) rfl rfl HSRC.out (cellsOf_one _) (by unfold maxLen; omega) (by omega) (by have := K3.size; simp; omega) ?_; intro v' w3 hown' hg3 _; refine Hid.out ?_)
        refine Lib.hid ?_
        rw [cells_snoc] at hown'
        have HO3 := Lib.hid hown'
        have K4 : Kp w w3 := (K3.tr (Kp.alloc wr _)).grown hg3 (by have := K3.size; simp; omega) (fun b hb => (HO.out.lt b hb).1)
        clear hown' hg3
        go_wp2
        go_roundw
        case rel => exact ⟨k + 1, (c + x) / 4294967296, O ++ [(c + x) % 4294967296], by go_num, by go_num, by omega, by omega, HO3.out, by rw [List.length_append, HOl.out]; rfl, HOL.out.append (Limbs.cons (by omega) Limbs.nil), add_app HOl.out HV.out HX.out HY.out, fun _ => HG.out, K4⟩
        case measure => simp [intOf]; omega
    · have HX := Lib.hid (getD_past X k hkx)
      by_cases hky : k < Y.length
      · obtain ⟨bb, boff, y, rfl, hcell2, hy, HY⟩ := (b4.kp K3).at B3.out k hky
        have hkm : k < X.length + Y.length + 1 := by omega
        have HG := Lib.hid (show 4294967296 ^ k ≤ val X + val Y from Nat.le_trans (HPY.out k hky) (Nat.le_add_left _ _))
        have HO2 := Lib.hid (HO.out.alloc (.cells #[.int .u32 (((c + y) % 4294967296 : Nat) : Int)] 45))
        have HSRC := Lib.hid (src_one wr 45 ((c + y) % 4294967296))
        go_wp2_with (at_builtin; refine wpList_append_src _ rfl (.tmp 46) (.tmp 49) 22 rfl w.heap.size 45 i0 (.int .u32 0) 1 4 undU32s hi hz0 hz1 hz2 rfl (by decide) u5 k (cellsOf O) rfl HO2.out (some ⟨wr.heap.size, 0, none⟩) 1 1 (cellsOf [(c + y) % 4294967296]) rfl rfl HSRC.out (cellsOf_one _) (by unfold maxLen; omega) (by omega) (by have := K3.size; simp; omega) ?_; intro v' w3 hown' hg3 _; refine Hid.out ?_)
        refine Lib.hid ?_
        rw [cells_snoc] at hown'
        have HO3 := Lib.hid hown'
        have K4 : Kp w w3 := (K3.tr (Kp.alloc wr _)).grown hg3 (by have := K3.size; simp; omega) (fun b hb => (HO.out.lt b hb).1)
        clear hown' hg3
        go_wp2
        go_roundw
        case rel => exact ⟨k + 1, (c + y) / 4294967296, O ++ [(c + y) % 4294967296], by go_num, by go_num, by omega, by omega, HO3.out, by rw [List.length_append, HOl.out]; rfl, HOL.out.append (Limbs.cons (by omega) Limbs.nil), add_app (x := 0) HOl.out HV.out HX.out HY.out, fun _ => HG.out, K4⟩
        case measure => simp [intOf]; omega
      · have HY := Lib.hid (getD_past Y k hky)
        by_cases hc0 : 0 < c
        · have hne : (((c : Nat) : Int) != 0) = true := by rw [bne_iff_ne]; omega
          have hkm : k < X.length + Y.length + 1 := by
            rcases Nat.lt_or_ge k (X.length + Y.length + 1) with h | h
            · exact h
            · have h1 := HV.out
              have h2 := carry_stop HOL.out HOl.out A3.out B3.out (by omega) (by omega) h1
              omega
          obtain rfl : c = 1 := by omega
          have HG := Lib.hid (show 4294967296 ^ k ≤ val X + val Y from carry_le HV.out hc0)
          have HO2 := Lib.hid (HO.out.alloc (.cells #[.int .u32 1] 45))
          have HSRC := Lib.hid (src_one wr 45 1)
          have HST := Lib.hid (add_one HOl.out HV.out HX.out HY.out)
          go_wp2_with (at_builtin; refine wpList_append_src _ rfl (.tmp 46) (.tmp 49) 22 rfl w.heap.size 45 i0 (.int .u32 0) 1 4 undU32s hi hz0 hz1 hz2 rfl (by decide) u5 k (cellsOf O) rfl HO2.out (some ⟨wr.heap.size, 0, none⟩) 1 1 (cellsOf [1]) rfl rfl HSRC.out (cellsOf_one _) (by unfold maxLen; omega) (by omega) (by have := K3.size; simp; omega) ?_; intro v' w3 hown' hg3 _; refine Hid.out ?_)
          refine Lib.hid ?_
          rw [cells_snoc] at hown'
          have HO3 := Lib.hid hown'
          have K4 : Kp w w3 := (K3.tr (Kp.alloc wr _)).grown hg3 (by have := K3.size; simp; omega) (fun b hb => (HO.out.lt b hb).1)
          clear hown' hg3
          go_wp2
          go_roundw
          case rel => exact ⟨k + 1, 0, O ++ [1], by go_num, rfl, by omega, by omega, HO3.out, by rw [List.length_append, HOl.out]; rfl, HOL.out.append (Limbs.cons (by omega) Limbs.nil), HST.out, fun _ => HG.out, K4⟩
          case measure => simp [intOf]; omega
        · obtain rfl : c = 0 := by omega
          have hne : (((0 : Nat) : Int) != 0) = false := rfl
          have hv := HV.out
          rw [Nat.mul_zero, Nat.add_zero, List.take_of_length_le (by omega), List.take_of_length_le (by omega)] at hv
          have hr := Rd.owned HO.out HOL.out
          rw [eq_toL HOL.out hv (by rw [HOl.out]; exact len_ge HP.out)] at hr
          have HR := Lib.hid hr
          clear hv hr
          go_wp2
          go_ret
          exact ⟨_, rfl, HR.out, K3⟩
end Go.Proofs.YtijadodleiiomaaDoor
