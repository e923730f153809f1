/-
  brepkernelref01.Mul: by walking its text.
-/
import Derived.Test.YtijadodleiiomaaDoorRefAM
namespace Go.Proofs.YtijadodleiiomaaDoor
open Go.RowKit

set_option maxHeartbeats 2000000 in
theorem rmul_core (a b : Value) (xs ys : List Nat) (w : World) (ha : Rd w a xs) (hb : Rd w b ys) (hl1 : xs.length ≤ 549755813888) (hl2 : ys.length ≤ 549755813888) :
    Calls Tryd.prog 28 #[a, b] w fun e w' => ∃ v', e = .returned v' ∧ Rd w' v' (toL (val xs * val ys)) ∧ Kp w w' := by
  obtain ⟨i0, hi, hz0, hz1, hz2⟩ := info_parts infoU32
  obtain ⟨ao, ac, rfl, a1, a2, a3, a4⟩ := ha
  obtain ⟨bo, bc, rfl, b1, b2, b3, b4⟩ := hb
  unfold maxLen at a2 b2
  have A3 := Lib.hid a3
  have B3 := Lib.hid b3
  clear a3 b3
  go_enter Tryd.func28, Tryd.ntmps28
  go_wp2_with (at_make; refine wpList_make_full _ rfl _ _ 22 rfl w.heap.size 45 i0 (.int .u32 0) 1 undU32s hi hz0 hz1 _ _ _ _ (xs.length + ys.length) rfl rfl (by omega) (by omega) (by rw [hz2]; omega) (by unfold maxLen; omega) (Nat.le_refl _) ?_; intro w1 hown hg; have O1 := Lib.hid (Own.of_make hown); have K1 := (Below.refl w.heap.size w).grown hg (Nat.le_refl _) (by intro j hj; cases hj); clear hown hg)
  go_loopw [6] (fun i wr => ∃ (k : Nat) (O : List Nat), k ≤ xs.length ∧ i = .int .i64 k ∧ Own wr 45 w.heap.size O ∧ O.length = xs.length + ys.length ∧ Limbs O ∧
      val (O.take (k + ys.length)) = val (xs.take k) * val ys ∧ Kp w wr) (fun i _ => xs.length - (intOf i).toNat)
  case atStart => exact ⟨0, List.replicate (xs.length + ys.length) 0, Nat.zero_le _, rfl, O1.out, by simp, Limbs.replicate _, by simp [val, List.take_replicate, val_replicate], K1⟩
  case round =>
    obtain ⟨k, O, hk, rfl, hO, hOl, hOL, hval, K2⟩ := hrel
    obtain ⟨wo, rfl⟩ : ∃ wo, wo = wr := ⟨_, rfl⟩
    have HO := Lib.hid hO
    have HOl := Lib.hid hOl
    have HOL := Lib.hid hOL
    have HV := Lib.hid hval
    clear hO hOl hOL hval
    by_cases hk1 : k < xs.length
    · obtain ⟨ab, aoff, x, rfl, _, hx, HX⟩ := (a4.kp K2).at A3.out k hk1
      go_wp2
      go_loopw [7, 8] (fun cv i wr => ∃ (j c : Nat) (P : List Nat), j ≤ ys.length ∧ i = .int .i64 j ∧ cv = .int .u64 c ∧ c < 4294967296 ∧ Own wr 45 w.heap.size P ∧ P.length = xs.length + ys.length ∧ Limbs P ∧
        P.drop (k + j) = O.drop (k + j) ∧ val (P.take (k + j)) + 4294967296 ^ (k + j) * c = val (O.take (k + j)) + 4294967296 ^ k * (x * val (ys.take j)) ∧ Kp w wr) (fun _ i _ => ys.length - (intOf i).toNat)
      case atStart => exact ⟨0, 0, O, Nat.zero_le _, rfl, rfl, by omega, HO.out, HOl.out, HOL.out, rfl, by simp [val], K2⟩
      case round =>
        obtain ⟨j, c, P, hj, rfl, rfl, hc, hP, hPl, hPL, hPd, hPv, K3⟩ := hrel
        have HP := Lib.hid hP
        have HPl := Lib.hid hPl
        have HPL := Lib.hid hPL
        have HPd := Lib.hid hPd
        have HPv := Lib.hid hPv
        clear hP hPl hPL hPd hPv
        obtain ⟨x', hcell, _, HX'⟩ : ∃ x', wr.cell? ⟨ab, aoff + k, none⟩ = some (.int .u32 (x' : Nat)) ∧ x' < 4294967296 ∧ Hid (x' = x) := by
          obtain ⟨b', off', x', he, h1, h2, h3⟩ := (a4.kp K3).at A3.out k hk1
          obtain ⟨rfl, rfl⟩ : ab = b' ∧ aoff = off' := by simpa using he
          exact ⟨x', h1, h2, by rw [h3.out, HX.out]; exact Lib.hid rfl⟩
        obtain rfl := HX'.out
        by_cases hj1 : j < ys.length
        · obtain ⟨bb, boff, y, rfl, hcell2, hy, HY⟩ := (b4.kp K3).at B3.out j hj1
          obtain ⟨o, hcl, ho, HOo⟩ := HP.out.at HPL.out (k + j) (by rw [HPl.out]; omega)
          have hfz := HP.out.frozen (k + j)
          have HB := Lib.hid (mulw hc hx hy ho)
          have s1 : IntKind.i64.wrap ((k : Int) + (j : Int)) = (k : Int) + j := IntWalk.i64_in _ (by omega)
          have s2 : ((k : Int) + (j : Int)).toNat = k + j := by omega
          have s3 : (0 : Int) ≤ (k : Int) + j := by omega
          have s4 : (k : Int) + (j : Int) < (xs.length + ys.length : Nat) := by omega
          go_wp2
          go_quiet (fail)
          clear s1 s2 s3 s4
          go_wp2
          rw [HB.out.1]
          have hb := HB.out.2
          go_roundw
          case rel => exact ⟨j + 1, (c + (x' * y + o)) / 4294967296, P.set (k + j) ((c + (x' * y + o)) % 4294967296), by omega, by go_num, by go_num, by omega, (HP.out.kp (Kp.drewN (Below.refl _ _) _)).set (k + j) _, by rw [List.length_set]; exact HPl.out, HPL.out.set _ _ (by omega), drop_next HPd.out _, mul_step (by rw [HPl.out]; omega) HPd.out HOo.out HY.out HPv.out, (K3.drewN _).setCell (Nat.le_refl _) _⟩
          case measure => simp [intOf]; omega
        · obtain rfl : j = ys.length := by omega
          obtain ⟨o, hcl, _, _⟩ := HP.out.at HPL.out (k + ys.length) (by rw [HPl.out]; omega)
          have hfz := HP.out.frozen (k + ys.length)
          go_wp2
          go_roundw
          case rel => exact ⟨k + 1, P.set (k + ys.length) c, by omega, by go_num, HP.out.set _ c, by rw [List.length_set]; exact HPl.out, HPL.out.set _ _ hc, mul_fin (by rw [HPl.out]; omega) HX.out HPv.out HV.out, K3.setCell (Nat.le_refl _) _⟩
          case measure => simp [intOf]; omega
    · obtain rfl : k = xs.length := by omega
      have hfin : val O = val xs * val ys := by
        have := HV.out
        rwa [List.take_of_length_le (Nat.le_refl xs.length), List.take_of_length_le (by rw [HOl.out]; exact Nat.le_refl _)] at this
      have HRd := HO.out.rd HOL.out (xs.length + ys.length) (by rw [HOl.out]; exact Nat.le_refl _) (xs.length + ys.length) (Nat.le_refl _) (by unfold maxLen; omega)
      rw [List.take_of_length_le (by rw [HOl.out]; exact Nat.le_refl _)] at HRd
      have HTR := Lib.hid (trim_any _ O wo HRd (by rw [HOl.out]; omega))
      have ht := toL_val HOL.out
      rw [hfin] at ht
      rw [← ht] at HTR
      clear hfin ht HRd
      go_wp2_with (go_at_call 39; refine HTR.out.mono ?_; rintro e w4 ⟨v4, rfl, h4, K4⟩)
      go_ret
      exact ⟨_, rfl, h4, K2.tr K4⟩

theorem radd_any {w : World} {a b : Value} {m n : Nat} (ha : M w a m) (hb : M w b n) {j k : Nat} (h1 : Sz j m) (h2 : Sz k n) (hj : j ≤ 1099511627776) (hk : k ≤ 1099511627776) :
    Calls Tryd.prog 26 #[a, b] w fun e w' => ∃ v', e = .returned v' ∧ M w' v' (m + n) ∧ Kp w w' := by
  have := radd_core a b _ _ w ha hb (Nat.le_trans h1 hj) (Nat.le_trans h2 hk) (fun k hk => by rw [val_toL]; exact pow_le_of_len hk) (fun k hk => by rw [val_toL]; exact pow_le_of_len hk)
  rw [val_toL, val_toL] at this
  exact this

theorem rmul_any {w : World} {a b : Value} {m n : Nat} (ha : M w a m) (hb : M w b n) {j k : Nat} (h1 : Sz j m) (h2 : Sz k n) (hj : j ≤ 549755813888) (hk : k ≤ 549755813888) :
    Calls Tryd.prog 28 #[a, b] w fun e w' => ∃ v', e = .returned v' ∧ M w' v' (m * n) ∧ Kp w w' := by
  have := rmul_core a b _ _ w ha hb (Nat.le_trans h1 hj) (Nat.le_trans h2 hk)
  rw [val_toL, val_toL] at this
  exact this
end Go.Proofs.YtijadodleiiomaaDoor
