/-
  natural.Add, by walking its text.
-/
import Derived.Test.YtijadodleiiomaaDoorTrimN
namespace Go.Proofs.YtijadodleiiomaaDoor
open Go.RowKit

set_option maxHeartbeats 1000000 in
theorem add_any (a b : Value) (xs ys : List Nat) (w : World) (ha : Rd w a xs) (hb : Rd w b ys) (hl1 : xs.length ≤ 1099511627776) (hl2 : ys.length ≤ 1099511627776) :
    Calls Tryd.prog 25 #[a, b] w fun e w' => ∃ v', e = .returned v' ∧ Rd w' v' (toL (val xs + val ys)) ∧ Kp w w' := by
  obtain ⟨i0, hi, hz0, hz1, hz2⟩ := info_parts infoU32
  by_cases hlt : xs.length < ys.length
  · obtain ⟨bo, bc, rfl, b1, b2, b3, b4⟩ := ha
    obtain ⟨ao, ac, rfl, a1, a2, a3, a4⟩ := hb
    unfold maxLen at a2 b2
    have A3 := Lib.hid a3
    have B3 := Lib.hid b3
    clear a3 b3
    have hlt' : decide ((xs.length : Int) < ys.length) = true := decide_eq_true (by omega)
    rw [Nat.add_comm (val xs)]
    go_enter Tryd.func25, Tryd.ntmps25
    obtain ⟨zs, rfl⟩ : ∃ zs, zs = xs := ⟨_, rfl⟩
    obtain ⟨xs, rfl⟩ : ∃ xs, xs = ys := ⟨_, rfl⟩
    obtain ⟨ys, rfl⟩ : ∃ ys, ys = zs := ⟨_, rfl⟩
    go_wp2_with (at_make; refine wpList_make_full _ rfl _ _ 22 rfl w.heap.size 45 i0 (.int .u32 0) 1 undU32s hi hz0 hz1 _ _ _ _ (xs.length + 1) rfl rfl (by omega) (by omega) (by rw [hz2]; omega) (by unfold maxLen; omega) (Nat.le_refl _) ?_; intro w1 hown hg; have O1 := Lib.hid (Own.of_make hown); have K1 := (Below.refl w.heap.size w).grown hg (Nat.le_refl _) (by intro j hj; cases hj); clear hown hg)
    go_loopw [6, 22] (fun c i wr => ∃ (k c' : Nat) (O : List Nat), k ≤ xs.length ∧ i = .int .i64 k ∧ c = .int .u64 c' ∧ c' ≤ 1 ∧ Own wr 45 w.heap.size O ∧ O.length = xs.length + 1 ∧ Limbs O ∧
      val (O.take k) + 4294967296 ^ k * c' = val (xs.take k) + val (ys.take k) ∧ Kp w wr) (fun _ i _ => xs.length - (intOf i).toNat)
    case atStart => exact ⟨0, 0, List.replicate (xs.length + 1) 0, Nat.zero_le _, rfl, rfl, by omega, O1.out, by simp, Limbs.replicate _, by simp [val], K1⟩
    case round =>
      obtain ⟨k, c, O, hk, rfl, rfl, hc, hO, hOl, hOL, hval, K2⟩ := hrel
      have HO := Lib.hid hO
      have HOl := Lib.hid hOl
      have HOL := Lib.hid hOL
      have HV := Lib.hid hval
      have hfz := hO.frozen k
      have hcl := hO.cell k
      rw [hOl] at hcl
      clear hO hOl hOL hval
      by_cases hk1 : k < xs.length
      · obtain ⟨ab, aoff, x, rfl, hcell, hx, HX⟩ := (a4.kp K2).at A3.out k hk1
        obtain ⟨o, hcl', _, _⟩ := HO.out.at HOL.out k (by rw [HOl.out]; omega)
        clear hcl
        by_cases hk2 : k < ys.length
        · obtain ⟨bb, boff, y, rfl, hcell2, hy, HY⟩ := (b4.kp K2).at B3.out k hk2
          go_wp2
          go_roundw
          case rel => exact ⟨k + 1, (c + x + y) / 4294967296, O.set k ((c + x + y) % 4294967296), by omega, by go_num, by go_num, by omega, HO.out.set k ((c + x + y) % 4294967296), by rw [List.length_set]; exact HOl.out, HOL.out.set k _ (by omega), add_step (by rw [HOl.out]; omega) HV.out HX.out HY.out, K2.setCell (Nat.le_refl _) _⟩
          case measure => simp [intOf]; omega
        · go_wp2
          have hy0 : 0 = ys.getD k 0 := by simp [List.getD, List.getElem?_eq_none (Nat.le_of_not_lt hk2)]
          go_roundw
          case rel => exact ⟨k + 1, (c + x) / 4294967296, O.set k ((c + x) % 4294967296), by omega, by go_num, by go_num, by omega, HO.out.set k ((c + x) % 4294967296), by rw [List.length_set]; exact HOl.out, HOL.out.set k _ (by omega), add_step (by rw [HOl.out]; omega) HV.out HX.out hy0, K2.setCell (Nat.le_refl _) _⟩
          case measure => simp [intOf]; omega
      · obtain rfl : k = xs.length := by omega
        have hlen : (O.set xs.length c).length = xs.length + 1 := by rw [List.length_set]; exact HOl.out
        have hfin := add_fin HOl.out (by omega) HV.out
        have HF := Lib.hid hfin
        have HLen := Lib.hid hlen
        have HO2 := Lib.hid (HO.out.set xs.length c)
        have HL2 := Lib.hid (HOL.out.set xs.length c (by omega))
        have hcl' := hcl (by omega)
        clear hfin hlen hcl
        go_wp2_with (go_at_call 40; refine (ntrim_of _ (xs.length + 1) _ (O.set xs.length c) _ HLen.out (Nat.le_refl _) (by unfold maxLen; omega) HO2.out.sl).mono ?_; rintro e w1 ⟨rfl, rfl⟩)
        go_ret
        exact ⟨_, rfl, HO2.out.mag HL2.out _ _ HF.out (by rw [HLen.out]; exact Nat.le_refl _) (by unfold maxLen; omega), K2.setCell (Nat.le_refl _) _⟩
  · obtain ⟨ao, ac, rfl, a1, a2, a3, a4⟩ := ha
    obtain ⟨bo, bc, rfl, b1, b2, b3, b4⟩ := hb
    unfold maxLen at a2 b2
    have A3 := Lib.hid a3
    have B3 := Lib.hid b3
    clear a3 b3
    have hlt' : decide ((xs.length : Int) < ys.length) = false := decide_eq_false (by omega)
    go_enter Tryd.func25, Tryd.ntmps25
    go_wp2_with (at_make; refine wpList_make_full _ rfl _ _ 22 rfl w.heap.size 45 i0 (.int .u32 0) 1 undU32s hi hz0 hz1 _ _ _ _ (xs.length + 1) rfl rfl (by omega) (by omega) (by rw [hz2]; omega) (by unfold maxLen; omega) (Nat.le_refl _) ?_; intro w1 hown hg; have O1 := Lib.hid (Own.of_make hown); have K1 := (Below.refl w.heap.size w).grown hg (Nat.le_refl _) (by intro j hj; cases hj); clear hown hg)
    go_loopw [6, 22] (fun c i wr => ∃ (k c' : Nat) (O : List Nat), k ≤ xs.length ∧ i = .int .i64 k ∧ c = .int .u64 c' ∧ c' ≤ 1 ∧ Own wr 45 w.heap.size O ∧ O.length = xs.length + 1 ∧ Limbs O ∧
      val (O.take k) + 4294967296 ^ k * c' = val (xs.take k) + val (ys.take k) ∧ Kp w wr) (fun _ i _ => xs.length - (intOf i).toNat)
    case atStart => exact ⟨0, 0, List.replicate (xs.length + 1) 0, Nat.zero_le _, rfl, rfl, by omega, O1.out, by simp, Limbs.replicate _, by simp [val], K1⟩
    case round =>
      obtain ⟨k, c, O, hk, rfl, rfl, hc, hO, hOl, hOL, hval, K2⟩ := hrel
      have HO := Lib.hid hO
      have HOl := Lib.hid hOl
      have HOL := Lib.hid hOL
      have HV := Lib.hid hval
      have hfz := hO.frozen k
      have hcl := hO.cell k
      rw [hOl] at hcl
      clear hO hOl hOL hval
      by_cases hk1 : k < xs.length
      · obtain ⟨ab, aoff, x, rfl, hcell, hx, HX⟩ := (a4.kp K2).at A3.out k hk1
        obtain ⟨o, hcl', _, _⟩ := HO.out.at HOL.out k (by rw [HOl.out]; omega)
        clear hcl
        by_cases hk2 : k < ys.length
        · obtain ⟨bb, boff, y, rfl, hcell2, hy, HY⟩ := (b4.kp K2).at B3.out k hk2
          go_wp2
          go_roundw
          case rel => exact ⟨k + 1, (c + x + y) / 4294967296, O.set k ((c + x + y) % 4294967296), by omega, by go_num, by go_num, by omega, HO.out.set k ((c + x + y) % 4294967296), by rw [List.length_set]; exact HOl.out, HOL.out.set k _ (by omega), add_step (by rw [HOl.out]; omega) HV.out HX.out HY.out, K2.setCell (Nat.le_refl _) _⟩
          case measure => simp [intOf]; omega
        · go_wp2
          have hy0 : 0 = ys.getD k 0 := by simp [List.getD, List.getElem?_eq_none (Nat.le_of_not_lt hk2)]
          go_roundw
          case rel => exact ⟨k + 1, (c + x) / 4294967296, O.set k ((c + x) % 4294967296), by omega, by go_num, by go_num, by omega, HO.out.set k ((c + x) % 4294967296), by rw [List.length_set]; exact HOl.out, HOL.out.set k _ (by omega), add_step (by rw [HOl.out]; omega) HV.out HX.out hy0, K2.setCell (Nat.le_refl _) _⟩
          case measure => simp [intOf]; omega
      · obtain rfl : k = xs.length := by omega
        have hlen : (O.set xs.length c).length = xs.length + 1 := by rw [List.length_set]; exact HOl.out
        have hfin := add_fin HOl.out (by omega) HV.out
        have HF := Lib.hid hfin
        have HLen := Lib.hid hlen
        have HO2 := Lib.hid (HO.out.set xs.length c)
        have HL2 := Lib.hid (HOL.out.set xs.length c (by omega))
        have hcl' := hcl (by omega)
        clear hfin hlen hcl
        go_wp2_with (go_at_call 40; refine (ntrim_of _ (xs.length + 1) _ (O.set xs.length c) _ HLen.out (Nat.le_refl _) (by unfold maxLen; omega) HO2.out.sl).mono ?_; rintro e w1 ⟨rfl, rfl⟩)
        go_ret
        exact ⟨_, rfl, HO2.out.mag HL2.out _ _ HF.out (by rw [HLen.out]; exact Nat.le_refl _) (by unfold maxLen; omega), K2.setCell (Nat.le_refl _) _⟩
end Go.Proofs.YtijadodleiiomaaDoor
