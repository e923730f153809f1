/-
  brepkernelref01.up, down, Shift: by walking their texts.
-/
import Derived.Test.YtijadodleiiomaaDoorShift
import Derived.Test.YtijadodleiiomaaDoorRefAM
namespace Go.Proofs.YtijadodleiiomaaDoor
open Go.RowKit

theorem owned_zeros {w : World} {B : Nat} {e : TypeId} {v : Value} {q : Nat} (h : w.ownsRow B e 1 v q (madeCells #[.int .u32 0] (q * 1)).toList) : w.ownsRow B e 1 v q (cellsOf (List.replicate q 0)) := by
  rw [Nat.mul_one, toList_madeCells_one] at h
  rw [show cellsOf (List.replicate q 0) = List.replicate q (Value.int .u32 0) by simp [cellsOf, limb]]
  exact h

/-- A step of a multiple that is appended. -/
theorem up_step {D xs : List Nat} {k c x p : Nat} (hl : D.length = k) (hv : val D + 4294967296 ^ k * c = val (xs.take k) * p) (hx : x = xs.getD k 0) :
    val (D ++ [(c + x * p) % 4294967296]) + 4294967296 ^ (k + 1) * ((c + x * p) / 4294967296) = val (xs.take (k + 1)) * p := by
  rw [val_snoc, hl, val_take_next xs, ← hx, powB k, Nat.mul_assoc, Nat.add_mul]
  have e : 4294967296 ^ k * ((c + x * p) % 4294967296) + 4294967296 ^ k * (4294967296 * ((c + x * p) / 4294967296)) = 4294967296 ^ k * c + 4294967296 ^ k * x * p := by
    rw [← Nat.mul_add, Nat.mod_add_div, Nat.mul_add, Nat.mul_assoc]
  omega

theorem up_last {D xs : List Nat} {k c p q : Nat} (hl : D.length = k) (hk : xs.length = k) (hv : val D + 4294967296 ^ k * c = val (xs.take k) * p) :
    val (List.replicate q 0 ++ (D ++ [c])) = val xs * (4294967296 ^ q * p) := by
  rw [val_zeros_append, val_snoc, hl, hv, List.take_of_length_le (by omega), Nat.mul_left_comm]

theorem low_new {P Y : List Nat} {n k : Nat} (hk : k < Y.length) (hl : P.length = Y.length) (ht : P.take k = (lowL n Y).take k) {d : Nat}
    (hd : d = (Y.getD k 0 + 4294967296 * Y.getD (k + 1) 0) / 2 ^ n % 4294967296) : (P.set k d).take (k + 1) = (lowL n Y).take (k + 1) := by
  have hl2 : (lowL n Y).length = Y.length := lowL_len n Y
  rw [take_snoc _ _ (by rw [List.length_set]; omega), take_snoc (lowL n Y) k (by omega), List.take_set_of_le (Nat.le_refl k), ht, lowL_getD _ _ _ hk, ← hd]
  congr 2
  simp [List.getD, show k < P.length by omega]

set_option maxRecDepth 20000 in
set_option maxHeartbeats 2000000 in
theorem up_core (a : Value) (X : List Nat) (n : Nat) (w : World) (ha : Rd w a X) (hl : X.length ≤ 549755813888) (hn : n ≤ 1099511627776) :
    Calls Tryd.prog 53 #[a, .int .i64 (n : Nat)] w fun e w' => ∃ v', e = .returned v' ∧ Rd w' v' (toL (val X * 2 ^ n)) ∧ Kp w w' := by
  obtain ⟨i0, hi, hz0, hz1, hz2⟩ := info_parts infoU32
  obtain ⟨ao, ac, rfl, a1, a2, a3, a4⟩ := ha
  have A3 := Lib.hid a3
  have A4 := Lib.hid a4
  have HP2 := Lib.hid (pow_split n)
  unfold maxLen at a2
  obtain ⟨q, hq⟩ : ∃ q, q = n / 32 := ⟨_, rfl⟩
  obtain ⟨r, hr⟩ : ∃ r, r = n % 32 := ⟨_, rfl⟩
  rw [← hq, ← hr] at HP2
  have hqi : (n : Int) / 32 = (q : Int) := by omega
  have hri : (n : Int) % 32 = (r : Int) := by omega
  have hr32 : r < 32 := by omega
  have hqb : q ≤ 34359738368 := by omega
  rw [HP2.out]
  clear a3 a4 hq hr
  go_enter Tryd.func53, Tryd.ntmps53
  go_wp2_with (at_make; refine wpList_make_full _ rfl _ _ 22 rfl w.heap.size 45 i0 (.int .u32 0) 1 undU32s hi hz0 hz1 _ _ _ _ q rfl rfl rfl rfl (by rw [hz2]; omega) (by unfold maxLen; omega) (Nat.le_refl _) ?_; intro w1 hown hg; have O1 := Lib.hid (owned_zeros hown); have K1 := (Below.refl w.heap.size w).grown hg (Nat.le_refl _) (by intro j hj; cases hj); clear hown hg)
  go_loopw [5, 6, 7] (fun ov cv i wr => ∃ (k c : Nat) (D : List Nat), k ≤ X.length ∧ i = .int .i64 k ∧ cv = .int .u64 c ∧ c < 2 ^ r ∧ wr.ownsRow w.heap.size 45 1 ov (q + k) (cellsOf (List.replicate q 0 ++ D)) ∧ D.length = k ∧ Limbs D ∧
    val D + 4294967296 ^ k * c = val (X.take k) * 2 ^ r ∧ Kp w wr) (fun _ _ i _ => X.length - (intOf i).toNat)
  case atStart => exact ⟨0, 0, [], Nat.zero_le _, rfl, rfl, Nat.pow_pos (by omega), by rw [List.append_nil]; exact O1.out, rfl, Limbs.nil, by simp [val], K1⟩
  case round =>
    obtain ⟨k, c, D, hk, rfl, rfl, hc, hO, hDl, hDL, hval, K3⟩ := hrel
    have HO := Lib.hid hO
    have HDl := Lib.hid hDl
    have HDL := Lib.hid hDL
    have HV := Lib.hid hval
    have HC := Lib.hid hc
    have hc32 : c < 4294967296 := Nat.lt_trans hc (limb_pow hr32).choose_spec.2.2
    clear hO hDl hDL hval hc
    by_cases hk1 : k < X.length
    · obtain ⟨ab, aoff, x, rfl, hcell, hx, HX⟩ := (A4.out.kp K3).at A3.out k hk1
      have HB := orup HC.out hx hr32
      have HR := Lib.hid (raise_carry HC.out hx)
      have HST := Lib.hid (up_step HDl.out HV.out HX.out)
      have HO2 := Lib.hid (HO.out.alloc (.cells #[.int .u32 (((c + x * 2 ^ r : Nat) : Int) % 4294967296)] 45))
      have HSRC := Lib.hid (src_one wr 45 ((c + x * 2 ^ r) % 4294967296))
      obtain ⟨s, hs⟩ : ∃ s, s = c + x * 2 ^ r := ⟨_, rfl⟩
      rw [← hs] at HB HST HO2 HSRC HR
      have HS := Lib.hid hs
      clear hs
      go_wp2_with (at_builtin; refine wpList_append_src _ rfl (.tmp 27) (.tmp 30) 22 rfl w.heap.size 45 i0 (.int .u32 0) 1 4 undU32s hi hz0 hz1 hz2 rfl (by decide) u5 (q + k) (cellsOf (List.replicate q 0 ++ D)) rfl HO2.out (some ⟨wr.heap.size, 0, none⟩) 1 1 (cellsOf [s % 4294967296]) rfl rfl HSRC.out (cellsOf_one _) (by unfold maxLen; omega) (by omega) (by have := K3.size; simp; omega) ?_; intro v' w3 hown' hg3 _; refine Hid.out ?_)
      refine Lib.hid ?_
      rw [cells_snoc, List.append_assoc] at hown'
      have HO3 := Lib.hid hown'
      have K4 : Kp w w3 := (K3.tr (Kp.alloc wr _)).grown hg3 (by have := K3.size; simp; omega) (fun b hb => (HO.out.lt b hb).1)
      clear hown' hg3
      go_wp2
      go_roundw
      case rel => exact ⟨k + 1, s / 4294967296, D ++ [s % 4294967296], by omega, by go_num, by go_num, HR.out.1, HO3.out, by rw [List.length_append, HDl.out]; rfl, HDL.out.append (Limbs.cons (Nat.mod_lt _ (by omega)) Limbs.nil), HST.out, K4⟩
      case measure => simp [intOf]; omega
    · obtain rfl : k = X.length := by omega
      have HO2 := Lib.hid (HO.out.alloc (.cells #[.int .u32 (c : Int)] 45))
      have HSRC := Lib.hid (src_one wr 45 c)
      have HF := Lib.hid (up_last (q := q) HDl.out rfl HV.out)
      go_wp2_with (at_builtin; refine wpList_append_src _ rfl (.tmp 34) (.tmp 37) 22 rfl w.heap.size 45 i0 (.int .u32 0) 1 4 undU32s hi hz0 hz1 hz2 rfl (by decide) u5 (q + X.length) (cellsOf (List.replicate q 0 ++ D)) rfl HO2.out (some ⟨wr.heap.size, 0, none⟩) 1 1 (cellsOf [c]) rfl rfl HSRC.out (cellsOf_one _) (by unfold maxLen; omega) (by omega) (by have := K3.size; simp; omega) ?_; intro v' w3 hown' hg3 _; refine Hid.out ?_)
      refine Lib.hid ?_
      rw [cells_snoc, List.append_assoc] at hown'
      have K4 : Kp w w3 := (K3.tr (Kp.alloc wr _)).grown hg3 (by have := K3.size; simp; omega) (fun b hb => (HO.out.lt b hb).1)
      have hLL : Limbs (List.replicate q 0 ++ (D ++ [c])) := (Limbs.replicate q).append (HDL.out.append (Limbs.cons hc32 Limbs.nil))
      have HTR := Lib.hid (trim_any v' _ w3 (Rd.owned hown' hLL) (by simp [HDl.out]; omega))
      have ht := toL_val hLL
      rw [HF.out] at ht
      rw [← ht] at HTR
      clear hown' hg3 hLL ht
      go_wp2_with (go_at_call 39; refine HTR.out.mono ?_; rintro e w4 ⟨v4, rfl, h4, K5⟩)
      go_ret
      exact ⟨_, rfl, h4, K4.tr K5⟩

set_option maxRecDepth 20000 in
set_option maxHeartbeats 1000000 in
theorem down_core (a : Value) (X : List Nat) (d : Nat) (w : World) (ha : Rd w a X) (hl : X.length ≤ 549755813888) (hd : d ≤ 35184372088832) :
    Calls Tryd.prog 56 #[a, .int .i64 (d : Nat)] w fun e w' => ∃ v', e = .returned v' ∧ Rd w' v' (toL (val X / 2 ^ d)) ∧ Kp w w' := by
  obtain ⟨i0, hi, hz0, hz1, hz2⟩ := info_parts infoU32
  obtain ⟨ao, ac, rfl, a1, a2, a3, a4⟩ := ha
  have HP2 := Lib.hid (div_pow_split (val X) d)
  unfold maxLen at a2
  obtain ⟨q, hq⟩ : ∃ q, q = d / 32 := ⟨_, rfl⟩
  obtain ⟨r, hr⟩ : ∃ r, r = d % 32 := ⟨_, rfl⟩
  rw [← hq, ← hr, ← val_drop_div a3] at HP2
  have hqi : (d : Int) / 32 = (q : Int) := by omega
  have hri : (d : Int) % 32 = (r : Int) := by omega
  have hr32 : r < 32 := by omega
  rw [HP2.out]
  clear hq hr
  by_cases hqx : q < X.length
  · obtain ⟨b, off, rfl, _⟩ := a4.cell (by omega)
    have A3 := Lib.hid (a3.drop q)
    have A4 := a4.drop q
    have hlY : (X.drop q).length = X.length - q := by rw [List.length_drop]
    have HV := Lib.hid (val_lowL hr32 (a3.drop q))
    obtain ⟨Y, hY⟩ : ∃ Y, Y = X.drop q := ⟨_, rfl⟩
    rw [← hY] at A3 A4 hlY HV ⊢
    have HLY := Lib.hid hlY
    have HL1 := Lib.hid (lowL_len r Y)
    have HL2 := Lib.hid (lowL_limbs r Y)
    rw [← HV.out]
    clear hY a3 a4 hlY
    go_enter Tryd.func56, Tryd.ntmps56
    go_wp2_with (at_make; refine wpList_make_full _ rfl _ _ 22 rfl w.heap.size 45 i0 (.int .u32 0) 1 undU32s hi hz0 hz1 _ _ _ _ (X.length - q) rfl rfl (by omega) (by omega) (by rw [hz2]; omega) (by unfold maxLen; omega) (Nat.le_refl _) ?_; intro w1 hown hg; have O1 := Lib.hid (Own.of_make hown); have K1 := (Below.refl w.heap.size w).grown hg (Nat.le_refl _) (by intro j hj; cases hj); clear hown hg)
    go_loopw [6] (fun i wr => ∃ (k : Nat) (P : List Nat), k ≤ X.length - q ∧ i = .int .i64 k ∧ Own wr 45 w.heap.size P ∧ Limbs P ∧ P.length = X.length - q ∧ P.take k = (lowL r Y).take k ∧ Kp w wr) (fun i _ => X.length - q - (intOf i).toNat)
    case atStart => exact ⟨0, List.replicate (X.length - q) 0, Nat.zero_le _, rfl, O1.out, Limbs.replicate _, by simp, rfl, K1⟩
    case round =>
      obtain ⟨k, P, hk, rfl, hP, hPL, hPl, hPt, K2⟩ := hrel
      have HP := Lib.hid hP
      have HPL := Lib.hid hPL
      have HPl := Lib.hid hPl
      have HPt := Lib.hid hPt
      clear hP hPL hPl hPt
      by_cases hk1 : k < X.length - q
      · obtain ⟨x, hcell, hx, HX⟩ := (A4.kp K2).cellIn A3.out k (by rw [HLY.out]; exact hk1) rfl
        obtain ⟨o, hcl, _, _⟩ := HP.out.at HPL.out k (by rw [HPl.out]; exact hk1)
        have hfz := HP.out.frozen k
        by_cases hk2 : k + 1 < X.length - q
        · obtain ⟨y, hcell2, hy, HY⟩ := (A4.kp K2).cellIn A3.out (k + 1) (by rw [HLY.out]; exact hk2) rfl
          have HB := Lib.hid (orpair hx hy)
          have HST := Lib.hid (low_new (P := P) (Y := Y) (n := r) (k := k) (by rw [HLY.out]; exact hk1) (by rw [HPl.out, HLY.out]) HPt.out (d := (x + 4294967296 * y) / 2 ^ r % 4294967296) (by rw [← HX.out, ← HY.out]))
          go_wp2
          rw [HB.out, shr_cast]
          go_roundw
          case rel => exact ⟨k + 1, P.set k ((x + 4294967296 * y) / 2 ^ r % 4294967296), by omega, by go_num, HP.out.set k _, HPL.out.set _ _ (Nat.mod_lt _ (by omega)), by rw [List.length_set]; exact HPl.out, HST.out, K2.setCell (Nat.le_refl _) _⟩
          case measure => simp [intOf]; omega
        · have HST := Lib.hid (low_new (P := P) (Y := Y) (n := r) (k := k) (by rw [HLY.out]; exact hk1) (by rw [HPl.out, HLY.out]) HPt.out (d := x / 2 ^ r % 4294967296) (by rw [← HX.out, ← getD_past Y (k + 1) (by rw [HLY.out]; exact hk2)]; rfl))
          go_wp2
          rw [shr_cast]
          go_roundw
          case rel => exact ⟨k + 1, P.set k (x / 2 ^ r % 4294967296), by omega, by go_num, HP.out.set k _, HPL.out.set _ _ (Nat.mod_lt _ (by omega)), by rw [List.length_set]; exact HPl.out, HST.out, K2.setCell (Nat.le_refl _) _⟩
          case measure => simp [intOf]; omega
      · obtain rfl : k = X.length - q := by omega
        have hP2 : P = lowL r Y := by
          have := HPt.out
          rwa [List.take_of_length_le (by rw [HPl.out]; exact Nat.le_refl _), List.take_of_length_le (by rw [HL1.out, HLY.out]; exact Nat.le_refl _)] at this
        have HRd := HP.out.rd HPL.out (X.length - q) (by rw [HPl.out]; exact Nat.le_refl _) (X.length - q) (Nat.le_refl _) (by unfold maxLen; omega)
        rw [List.take_of_length_le (by rw [HPl.out]; exact Nat.le_refl _)] at HRd
        have HTR := Lib.hid (trim_any _ P wr HRd (by rw [HPl.out]; omega))
        rw [← toL_val HPL.out, hP2] at HTR
        clear HRd hP2
        go_wp2_with (go_at_call 39; refine HTR.out.mono ?_; rintro e w4 ⟨v4, rfl, h4, K5⟩)
        go_ret
        exact ⟨_, rfl, h4, K2.tr K5⟩
  · rw [List.drop_of_length_le (by omega)]
    have hz : val ([] : List Nat) / 2 ^ r = 0 := Nat.zero_div _
    rw [hz, toL_zero]
    clear a3 a4
    go_enter Tryd.func56, Tryd.ntmps56
    go_wp2
    go_ret
    exact ⟨_, rfl, ⟨none, 0, rfl, Nat.le_refl _, Nat.zero_le _, Limbs.nil, fun h => absurd rfl h⟩, Below.refl _ _⟩

theorem rshift_up {w : World} {a : Value} {m : Nat} (ha : M w a m) {k : Nat} (hs : Sz k m) (hk : k ≤ 549755813888) (n : Nat) (hn : n ≤ 16384) :
    Calls Tryd.prog 34 #[a, .int .i64 (n : Nat)] w fun e w' => ∃ v', e = .returned (.tuple #[v', .int .i64 0]) ∧ M w' v' (m * 2 ^ n) ∧ Kp w w' := by
  have h := up_core a _ n w ha (Nat.le_trans hs hk) (by omega)
  rw [val_toL] at h
  have H := Lib.hid h
  clear h ha hs
  go_enter Tryd.func34, Tryd.ntmps34
  go_wp2_with (go_at_call 53; refine H.out.mono ?_; rintro e w1 ⟨v1, rfl, h1, k1⟩)
  go_ret2
  exact ⟨_, rfl, h1, k1⟩

theorem rshift_far (a : Value) (n : Int) (w : World) (hn : 16384 < n) :
    Calls Tryd.prog 34 #[a, .int .i64 n] w fun e w' => e = .returned (.tuple #[.slice none 0 0, .int .i64 2]) ∧ w = w' := by
  go_enter Tryd.func34, Tryd.ntmps34
  go_wp2
  go_ret2
  exact ⟨rfl, rfl⟩

theorem rshift_down {w : World} {a : Value} {m : Nat} (ha : M w a m) {k : Nat} (hs : Sz k m) (hk : k ≤ 549755813888) (d : Nat) (hd : 0 < d) :
    Calls Tryd.prog 34 #[a, .int .i64 (-(d : Int))] w fun e w' => ∃ v', e = .returned (.tuple #[v', .int .i64 0]) ∧ M w' v' (m / 2 ^ d) ∧ Kp w w' := by
  have hl : (toL m).length ≤ 549755813888 := Nat.le_trans hs hk
  by_cases hfar : 32 * ((toL m).length + 1) < d
  · have hz : m / 2 ^ d = 0 := by
      apply Nat.div_eq_of_lt
      have h1 := toL_lt m
      have h2 : 4294967296 ^ (toL m).length = 2 ^ (32 * (toL m).length) := by rw [Nat.pow_mul]
      have h3 : 2 ^ (32 * (toL m).length) ≤ 2 ^ d := Nat.pow_le_pow_right (by omega) (by omega)
      omega
    rw [hz]
    obtain ⟨ao, ac, rfl, a1, a2, _, _⟩ := ha
    unfold maxLen at a2
    clear hs hz
    go_enter Tryd.func34, Tryd.ntmps34
    go_wp2
    go_ret2
    exact ⟨_, rfl, by unfold M; rw [toL_zero]; exact ⟨none, 0, rfl, Nat.le_refl _, Nat.zero_le _, Limbs.nil, fun h => absurd rfl h⟩, Below.refl _ _⟩
  · have h := down_core a _ d w ha hl (by omega)
    rw [val_toL] at h
    have H := Lib.hid h
    obtain ⟨ao, ac, rfl, a1, a2, _, _⟩ := ha
    unfold maxLen at a2
    clear h hs
    go_enter Tryd.func34, Tryd.ntmps34
    go_wp2_with (go_at_call 56; refine H.out.mono ?_; rintro e w1 ⟨v1, rfl, h1, k1⟩)
    go_ret2
    exact ⟨_, rfl, h1, k1⟩

theorem shift_down {w : World} {a : Value} {m : Nat} (ha : M w a m) {k : Nat} (hs : Sz k m) (hk : k ≤ 549755813888) (d : Nat) (hd : 0 < d) (hd2 : d ≤ 9223372036854775808) :
    Calls Tryd.prog 33 #[a, .int .i64 (-(d : Int))] w fun e w' => ∃ v', e = .returned (.tuple #[v', .int .i64 0]) ∧ M w' v' (m / 2 ^ d) ∧ Kp w w' := by
  have := shift_down_core a _ d w ha (Nat.le_trans hs hk) hd hd2
  rw [val_toL] at this
  exact this
end Go.Proofs.YtijadodleiiomaaDoor
