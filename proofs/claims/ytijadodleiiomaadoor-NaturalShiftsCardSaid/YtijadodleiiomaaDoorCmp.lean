/-
  cmp.Compare, natural.Cmp, natural.small: by walking their texts.
-/
import Derived.Test.YtijadodleiiomaaDoorDivL
namespace Go.Proofs.YtijadodleiiomaaDoor
open Go.RowKit

/-- A callee that leaves every world alone, called in a region behind another drawn one. -/
theorem still_behind {P : Program} {f : FuncId} {args : Array Value} {v : Value} (c : ∀ W : World, Calls P f args W fun e w' => e = .returned v ∧ w' = W) (w : World) (a n : Nat) :
    Calls P f args (w.drewN (a + n)) fun e w'' => e = .returned v ∧ ∃ m, w'' = w.drewN (a + m) := by
  refine (c _).mono ?_
  rintro e w' ⟨he, rfl⟩
  exact ⟨he, n, rfl⟩

theorem compare32 (x y : Nat) (w : World) : Calls Tryd.prog 42 #[.int .u32 (x : Nat), .int .u32 (y : Nat)] w fun e w' => e = .returned (.int .i64 (cmpv x y)) ∧ w' = w := by
  rcases Nat.lt_trichotomy x y with h | h | h
  · rw [cmpv_lt h]
    go_enter Tryd.func42, Tryd.ntmps42
    go_wp2
    go_ret
    exact ⟨rfl, rfl⟩
  · rw [cmpv_eq h]
    subst h
    go_enter Tryd.func42, Tryd.ntmps42
    go_wp2
    go_ret
    exact ⟨rfl, rfl⟩
  · rw [cmpv_gt h]
    go_enter Tryd.func42, Tryd.ntmps42
    go_wp2
    go_ret
    exact ⟨rfl, rfl⟩

theorem compareInt (x y : Nat) (w : World) : Calls Tryd.prog 41 #[.int .i64 (x : Nat), .int .i64 (y : Nat)] w fun e w' => e = .returned (.int .i64 (cmpv x y)) ∧ w' = w := by
  rcases Nat.lt_trichotomy x y with h | h | h
  · rw [cmpv_lt h]
    go_enter Tryd.func41, Tryd.ntmps41
    go_wp2
    go_ret
    exact ⟨rfl, rfl⟩
  · rw [cmpv_eq h]
    subst h
    go_enter Tryd.func41, Tryd.ntmps41
    go_wp2
    go_ret
    exact ⟨rfl, rfl⟩
  · rw [cmpv_gt h]
    go_enter Tryd.func41, Tryd.ntmps41
    go_wp2
    go_ret
    exact ⟨rfl, rfl⟩

set_option maxHeartbeats 1000000 in
theorem cmp_any (a b : Value) (xs ys : List Nat) (w : World) (ha : Rd w a xs) (hb : Rd w b ys) :
    Calls Tryd.prog 16 #[a, b] w fun e w' => e = .returned (.int .i64 (cmpv (val xs) (val ys))) ∧ Kp w w' := by
  obtain ⟨ao, ac, rfl, a1, a2, a3, a4⟩ := ha
  obtain ⟨bo, bc, rfl, b1, b2, b3, b4⟩ := hb
  have HA := Lib.hid (ntrim_at ao ac xs w a1 a2 a4)
  have HB := Lib.hid (ntrim_at bo bc ys w b1 b2 b4)
  have A4 := trimL_take xs ▸ a4.take (trimL xs).length
  have B4 := trimL_take ys ▸ b4.take (trimL ys).length
  have A3 := Lib.hid (limbs_trimL a3)
  have B3 := Lib.hid (limbs_trimL b3)
  have hl1 := Lib.hid (lt_of_length a3 b3)
  have hl2 := Lib.hid (lt_of_length b3 a3)
  have ex := val_trimL xs
  have ey := val_trimL ys
  have ha := length_trimL xs
  have hb := length_trimL ys
  unfold maxLen at a2 b2
  clear a3 b3 a4 b4
  obtain ⟨X, hX⟩ : ∃ X, X = trimL xs := ⟨_, rfl⟩
  obtain ⟨Y, hY⟩ : ∃ Y, Y = trimL ys := ⟨_, rfl⟩
  rw [← hX] at HA A4 A3 hl1 hl2 ex ha
  rw [← hY] at HB B4 B3 hl1 hl2 ey hb
  rw [← ex, ← ey] at hl1 hl2 ⊢
  clear hX hY ex ey
  by_cases hl : X.length = Y.length
  · have hne : (((X.length : Nat) : Int) != (Y.length : Int)) = false := by rw [hl]; simp
    have HL := Lib.hid hl
    have hly : Y.length ≤ X.length := by omega
    have hlx : X.length ≤ Y.length := by omega
    clear hl hl1 hl2
    go_enter Tryd.func16, Tryd.ntmps16
    go_wp2_with (go_at_call 40; first | ((with_reducible refine HA.out.mono ?_); rintro e w1 ⟨rfl, rfl⟩) | ((with_reducible refine HB.out.mono ?_); rintro e w1 ⟨rfl, rfl⟩))
    go_loopw [5] (fun i wr => ∃ j : Nat, j ≤ X.length ∧ i = .int .i64 ((j : Int) - 1) ∧ X.drop j = Y.drop j ∧ Kp w wr) (fun i _ => (intOf i + 1).toNat)
    case atStart => exact ⟨X.length, Nat.le_refl _, rfl, by rw [List.drop_length, List.drop_of_length_le hly], Below.refl _ _⟩
    case round =>
      obtain ⟨j, hj, rfl, hd, K1⟩ := hrel
      have HD := Lib.hid hd
      clear hd
      by_cases hj0 : 0 < j
      · obtain ⟨i, rfl⟩ : ∃ i, j = i + 1 := ⟨j - 1, by omega⟩
        obtain ⟨ab, aoff, x, rfl, hcell, hx, HX⟩ := (A4.kp K1).at A3.out i (by omega)
        obtain ⟨bb, boff, y, rfl, hcell2, hy, HY⟩ := (B4.kp K1).at B3.out i (by omega)
        by_cases hxy : x = y
        · have hb : (((x : Nat) : Int) != (y : Int)) = false := by rw [hxy]; simp
          have hd2 : X.drop i = Y.drop i := by
            rw [drop_cons X i (by omega), drop_cons Y i (by omega), HD.out, ← HX.out, ← HY.out, hxy]
          have HD2 := Lib.hid hd2
          clear hxy hd2
          go_wp2
          go_quiet (fail)
          go_wp2
          go_roundw
          case rel => exact ⟨i, by omega, by go_num, HD2.out, K1.drewN _⟩
          case measure => simp [intOf]
        · have hb : (((x : Nat) : Int) != (y : Int)) = true := by rw [bne_iff_ne]; omega
          have hc : cmpv x y = cmpv (val X) (val Y) := by
            rcases Nat.lt_or_gt_of_ne hxy with h | h
            · rw [cmpv_lt h, cmpv_lt (lt_at A3.out HD.out HL.out (by omega) (by rw [← HX.out, ← HY.out]; exact h))]
            · rw [cmpv_gt h, cmpv_gt (lt_at B3.out HD.out.symm HL.out.symm (by omega) (by rw [← HX.out, ← HY.out]; exact h))]
          have HC := Lib.hid hc
          clear hxy hc
          go_wp2
          go_quiet (fail)
          go_wp2
          go_quiet ((go_at_call 42; exact still_behind (compare32 _ _) _ _ _))
          go_wp2
          go_ret
          exact ⟨ret_int HC.out, (K1.drewN _).drewN _⟩
      · obtain rfl : j = 0 := by omega
        have hc : 0 = cmpv (val X) (val Y) := (cmpv_eq (val_eq_of_drop HD.out)).symm
        have HC := Lib.hid hc
        clear hc
        go_wp2
        go_ret
        exact ⟨ret_int HC.out, K1⟩
  · have hne : (((X.length : Nat) : Int) != (Y.length : Int)) = true := by rw [bne_iff_ne]; omega
    have hc : cmpv X.length Y.length = cmpv (val X) (val Y) := by
      rcases Nat.lt_or_gt_of_ne hl with h | h
      · rw [cmpv_lt h, cmpv_lt (hl1.out h)]
      · rw [cmpv_gt h, cmpv_gt (hl2.out h)]
    have HC := Lib.hid hc
    clear hc hl
    go_enter Tryd.func16, Tryd.ntmps16
    go_wp2_with (first
      | (go_at_call 40; first | ((with_reducible refine HA.out.mono ?_); rintro e w1 ⟨rfl, rfl⟩) | ((with_reducible refine HB.out.mono ?_); rintro e w1 ⟨rfl, rfl⟩))
      | (go_at_call 41; refine (compareInt _ _ _).mono ?_; rintro e w1 ⟨rfl, rfl⟩))
    go_ret
    exact ⟨ret_int HC.out, Below.refl _ _⟩
end Go.Proofs.YtijadodleiiomaaDoor
