/-
  natural.Mul, by walking its text.
-/
import Derived.Test.YtijadodleiiomaaDoorTrimN
namespace Go.Proofs.YtijadodleiiomaaDoor
open Go.RowKit

theorem zrest0 (m n : Nat) : (List.replicate (m + n) 0).drop (0 + n) = List.replicate (m - 0) (0 : Nat) := by
  rw [List.drop_replicate, show m + n - (0 + n) = m - 0 by omega]

theorem zrest {O : List Nat} {k n m : Nat} (h : O.drop (k + n) = List.replicate (m - k) 0) (_hk : k < m) : O.drop (k + 1 + n) = List.replicate (m - (k + 1)) 0 := by
  rw [show k + 1 + n = (k + n) + 1 by omega, ← List.drop_drop, h, List.drop_replicate, Nat.sub_sub]

theorem zrest_set {P O : List Nat} {k n m : Nat} (c : Nat) (hd : P.drop (k + n) = O.drop (k + n)) (h : O.drop (k + n) = List.replicate (m - k) 0) (hk : k < m) : (P.set (k + n) c).drop (k + 1 + n) = List.replicate (m - (k + 1)) 0 := by
  rw [show k + 1 + n = (k + n) + 1 by omega, drop_next hd c, show (k + n) + 1 = k + 1 + n by omega]
  exact zrest h hk

theorem mul_skip {O xs ys : List Nat} {k x : Nat} (hx : x = xs.getD k 0) (h0 : x = 0) (_hk : k < xs.length) (hd : O.drop (k + ys.length) = List.replicate (xs.length - k) 0) (hv : val (O.take (k + ys.length)) = val (xs.take k) * val ys) :
    val (O.take (k + 1 + ys.length)) = val (xs.take (k + 1)) * val ys := by
  have e : O.getD (k + ys.length) 0 = 0 := by
    have h1 : (O.drop (k + ys.length))[0]? = (List.replicate (xs.length - k) 0)[0]? := by rw [hd]
    simp only [List.getElem?_drop, Nat.add_zero] at h1
    rw [List.getD, h1, List.getElem?_replicate]
    split <;> rfl
  rw [show k + 1 + ys.length = (k + ys.length) + 1 by omega, val_take_next O, e, val_take_next xs, ← hx, h0, hv]
  simp

set_option maxHeartbeats 1000000 in
theorem mul_any (a b : Value) (xs ys : List Nat) (w : World) (ha : Rd w a xs) (hb : Rd w b ys) (hl1 : xs.length ≤ 1099511627776) (hl2 : ys.length ≤ 1099511627776) :
    Calls Tryd.prog 27 #[a, b] w fun e w' => ∃ v', e = .returned v' ∧ Rd w' v' (toL (val xs * val ys)) ∧ Kp w w' := by
  obtain ⟨i0, hi, hz0, hz1, hz2⟩ := info_parts infoU32
  obtain ⟨ao, ac, rfl, a1, a2, a3, a4⟩ := ha
  obtain ⟨bo, bc, rfl, b1, b2, b3, b4⟩ := hb
  unfold maxLen at a2 b2
  have A3 := Lib.hid a3
  have B3 := Lib.hid b3
  clear a3 b3
  go_enter Tryd.func27, Tryd.ntmps27
  go_wp2_with (at_make; refine wpList_make_full _ rfl _ _ 22 rfl w.heap.size 45 i0 (.int .u32 0) 1 undU32s hi hz0 hz1 _ _ _ _ (xs.length + ys.length) rfl rfl (by omega) (by omega) (by rw [hz2]; omega) (by unfold maxLen; omega) (Nat.le_refl _) ?_; intro w1 hown hg; have O1 := Lib.hid (Own.of_make hown); have K1 := (Below.refl w.heap.size w).grown hg (Nat.le_refl _) (by intro j hj; cases hj); clear hown hg)
  go_loopw [20] (fun i wr => ∃ (k : Nat) (O : List Nat), k ≤ xs.length ∧ i = .int .i64 k ∧ Own wr 45 w.heap.size O ∧ O.length = xs.length + ys.length ∧ Limbs O ∧
      val (O.take (k + ys.length)) = val (xs.take k) * val ys ∧ O.drop (k + ys.length) = List.replicate (xs.length - k) 0 ∧ Kp w wr) (fun i _ => xs.length - (intOf i).toNat)
  case atStart => exact ⟨0, List.replicate (xs.length + ys.length) 0, Nat.zero_le _, rfl, O1.out, by simp, Limbs.replicate _, by simp [val, List.take_replicate, val_replicate], zrest0 _ _, K1⟩
  case round =>
    obtain ⟨k, O, hk, rfl, hO, hOl, hOL, hval, hZ, K2⟩ := hrel
    obtain ⟨wo, rfl⟩ : ∃ wo, wo = wr := ⟨_, rfl⟩
    have HO := Lib.hid hO
    have HOl := Lib.hid hOl
    have HOL := Lib.hid hOL
    have HV := Lib.hid hval
    have HZ := Lib.hid hZ
    clear hO hOl hOL hval hZ
    by_cases hk1 : k < xs.length
    · obtain ⟨ab, aoff, x, rfl, hcell, hx, HX⟩ := (a4.kp K2).at A3.out k hk1
      by_cases hx0 : x = 0
      · subst hx0
        go_wp2
        go_roundw
        case rel => exact ⟨k + 1, O, by omega, by go_num, HO.out, HOl.out, HOL.out, mul_skip HX rfl hk1 HZ.out HV.out, zrest HZ.out hk1, K2⟩
        case measure => simp [intOf]; omega
      have hx0i : ((x : Int) == 0) = false := by simp; omega
      go_wp2_with fail
      go_loopw [9, 36] (fun cv i wr => ∃ (j c : Nat) (P : List Nat), j ≤ ys.length ∧ i = .int .i64 j ∧ cv = .int .u64 c ∧ c < 4294967296 ∧ Own wr 45 w.heap.size P ∧ P.length = xs.length + ys.length ∧ Limbs P ∧
        P.drop (k + j) = O.drop (k + j) ∧ val (P.take (k + j)) + 4294967296 ^ (k + j) * c = val (O.take (k + j)) + 4294967296 ^ k * (x * val (ys.take j)) ∧ Kp w wr) (fun _ i _ => ys.length - (intOf i).toNat)
      case atStart => exact ⟨0, 0, O, Nat.zero_le _, rfl, rfl, by omega, HO.out, HOl.out, HOL.out, rfl, by simp [val], K2⟩
      case round =>
        obtain ⟨j, c, P, hj, rfl, rfl, hc, hP, hPl, hPL, hPd, hPv, K3⟩ := hrel
        have HP := Lib.hid hP
        have HPl := Lib.hid hPl
        have HPL := Lib.hid hPL
        have HPd := Lib.hid hPd
        have HPv := Lib.hid hPv
        clear hP hPl hPL hPd hPv
        by_cases hj1 : j < ys.length
        · obtain ⟨bb, boff, y, rfl, hcell2, hy, HY⟩ := (b4.kp K3).at B3.out j hj1
          obtain ⟨o, hcl, ho, HOo⟩ := HP.out.at HPL.out (k + j) (by rw [HPl.out]; omega)
          have hfz := HP.out.frozen (k + j)
          have HB := Lib.hid (mulw hc hx hy ho)
          go_wp2
          rw [HB.out.1]
          have hb := HB.out.2
          go_roundw
          case rel => exact ⟨j + 1, (c + (x * y + o)) / 4294967296, P.set (k + j) ((c + (x * y + o)) % 4294967296), by omega, by go_num, by go_num, by omega, HP.out.set (k + j) _, by rw [List.length_set]; exact HPl.out, HPL.out.set _ _ (by omega), drop_next HPd.out _, mul_step (by rw [HPl.out]; omega) HPd.out HOo.out HY.out HPv.out, K3.setCell (Nat.le_refl _) _⟩
          case measure => simp [intOf]; omega
        · obtain rfl : j = ys.length := by omega
          obtain ⟨o, hcl, _, _⟩ := HP.out.at HPL.out (k + ys.length) (by rw [HPl.out]; omega)
          have hfz := HP.out.frozen (k + ys.length)
          go_wp2
          go_roundw
          case rel => exact ⟨k + 1, P.set (k + ys.length) c, by omega, by go_num, HP.out.set _ c, by rw [List.length_set]; exact HPl.out, HPL.out.set _ _ hc, mul_fin (by rw [HPl.out]; omega) HX.out HPv.out HV.out, zrest_set c HPd.out HZ.out hk1, K3.setCell (Nat.le_refl _) _⟩
          case measure => simp [intOf]; omega
    · obtain rfl : k = xs.length := by omega
      have hfin : val O = val xs * val ys := by
        have := HV.out
        rwa [List.take_of_length_le (Nat.le_refl xs.length), List.take_of_length_le (by rw [HOl.out]; exact Nat.le_refl _)] at this
      have HF := Lib.hid hfin
      clear hfin
      go_wp2_with (go_at_call 40; refine (ntrim_of _ (xs.length + ys.length) _ O _ HOl.out (Nat.le_refl _) (by unfold maxLen; omega) HO.out.sl).mono ?_; rintro e w1 ⟨rfl, rfl⟩)
      go_ret
      exact ⟨_, rfl, HO.out.mag HOL.out _ _ HF.out (by rw [HOl.out]; exact Nat.le_refl _) (by unfold maxLen; omega), K2⟩
end Go.Proofs.YtijadodleiiomaaDoor
