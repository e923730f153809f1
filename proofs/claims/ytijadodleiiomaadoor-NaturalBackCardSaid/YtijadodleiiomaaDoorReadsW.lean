/-
  What NaturalReads compares: Valid, Cmp, Bits and Of of both texts, by walking them.
-/
import Derived.Test.YtijadodleiiomaaDoorLaw
import Derived.Lib.BitFns
namespace Go.Proofs.YtijadodleiiomaaDoor
open Go.RowKit

/-- Whether limbs are a magnitude. -/
def validB (xs : List Nat) : Bool := decide (xs.length = 0 ∨ xs.getD (xs.length - 1) 0 ≠ 0)

theorem toL_top (n : Nat) (h : 0 < (toL n).length) : (toL n).getD ((toL n).length - 1) 0 ≠ 0 := by
  intro e
  have h1 := trimL_step (toL n) (toL n).length h (Nat.le_refl _) e
  rw [List.take_length, trimL_toL] at h1
  have h2 := length_trimL ((toL n).take ((toL n).length - 1))
  rw [← h1, List.length_take] at h2
  omega

theorem validB_toL (n : Nat) : validB (toL n) = true := by
  unfold validB
  apply decide_eq_true
  rcases Nat.eq_zero_or_pos (toL n).length with h | h
  · exact Or.inl h
  · exact Or.inr (toL_top n h)

theorem nvalid_any (v : Value) (xs : List Nat) (w : World) (h : Rd w v xs) :
    Calls Tryd.prog 14 #[v] w fun e w' => e = .returned (.bool (validB xs)) ∧ w = w' := by
  obtain ⟨ao, cap, rfl, h1, h2, h3, h4⟩ := h
  unfold maxLen at h2
  rcases Nat.eq_zero_or_pos xs.length with h0 | h0
  · have hv : validB xs = true := decide_eq_true (Or.inl h0)
    rw [hv]
    have he : (((xs.length : Nat) : Int) == 0) = true := beq_iff_eq.2 (by omega)
    clear h3 h4 hv h0
    go_enter Tryd.func14, Tryd.ntmps14
    go_wp2
    go_ret
    exact ⟨rfl, rfl⟩
  · have he : (((xs.length : Nat) : Int) == 0) = false := beq_eq_false_iff_ne.2 (by omega)
    obtain ⟨b, off, x, rfl, hcell, hx, HX⟩ := h4.at h3 (xs.length - 1) (by omega)
    have hv : validB xs = (((x : Nat) : Int) != 0) := by
      unfold validB
      rw [← HX.out]
      by_cases hz : x = 0
      · subst hz
        simp
        exact fun e => by simp [e] at h0
      · rw [decide_eq_true (Or.inr hz)]
        exact (bne_iff_ne.2 (by omega)).symm
    rw [hv]
    clear h3 h4 hv
    go_enter Tryd.func14, Tryd.ntmps14
    go_wp2
    go_ret
    exact ⟨rfl, rfl⟩

theorem rvalid_any (v : Value) (xs : List Nat) (w : World) (h : Rd w v xs) :
    Calls Tryd.prog 15 #[v] w fun e w' => e = .returned (.bool (validB xs)) ∧ w = w' := by
  obtain ⟨ao, cap, rfl, h1, h2, h3, h4⟩ := h
  unfold maxLen at h2
  rcases Nat.eq_zero_or_pos xs.length with h0 | h0
  · have hv : validB xs = true := decide_eq_true (Or.inl h0)
    rw [hv]
    have he : (((xs.length : Nat) : Int) == 0) = true := beq_iff_eq.2 (by omega)
    clear h3 h4 hv h0
    go_enter Tryd.func15, Tryd.ntmps15
    go_wp2
    go_ret
    exact ⟨rfl, rfl⟩
  · have he : (((xs.length : Nat) : Int) == 0) = false := beq_eq_false_iff_ne.2 (by omega)
    obtain ⟨b, off, x, rfl, hcell, hx, HX⟩ := h4.at h3 (xs.length - 1) (by omega)
    have hv : validB xs = (((x : Nat) : Int) != 0) := by
      unfold validB
      rw [← HX.out]
      by_cases hz : x = 0
      · subst hz
        simp
        exact fun e => by simp [e] at h0
      · rw [decide_eq_true (Or.inr hz)]
        exact (bne_iff_ne.2 (by omega)).symm
    rw [hv]
    clear h3 h4 hv
    go_enter Tryd.func15, Tryd.ntmps15
    go_wp2
    go_ret
    exact ⟨rfl, rfl⟩

set_option maxHeartbeats 1000000 in
theorem rcmp_any (a b : Value) (m n : Nat) (w : World) (ha : M w a m) (hb : M w b n) :
    Calls Tryd.prog 17 #[a, b] w fun e w' => e = .returned (.int .i64 (cmpv m n)) ∧ Kp w w' := by
  obtain ⟨ao, ac, rfl, a1, a2, a3, A4⟩ := ha
  obtain ⟨bo, bc, rfl, b1, b2, b3, B4⟩ := hb
  have A3 := Lib.hid a3
  have B3 := Lib.hid b3
  have hl1 := Lib.hid (lt_of_length a3 b3)
  have hl2 := Lib.hid (lt_of_length b3 a3)
  rw [trimL_toL, trimL_toL] at hl1 hl2
  have ex := val_toL m
  have ey := val_toL n
  unfold maxLen at a2 b2
  clear a3 b3
  obtain ⟨X, hX⟩ : ∃ X, X = toL m := ⟨_, rfl⟩
  obtain ⟨Y, hY⟩ : ∃ Y, Y = toL n := ⟨_, rfl⟩
  rw [← hX] at A4 A3 hl1 hl2 ex a1 ⊢
  rw [← hY] at B4 B3 hl1 hl2 ey b1 ⊢
  rw [← ex, ← ey]
  clear hX hY ex ey
  by_cases hl : X.length = Y.length
  · have hne : (((X.length : Nat) : Int) != (Y.length : Int)) = false := by rw [hl]; simp
    have HL := Lib.hid hl
    have hly : Y.length ≤ X.length := by omega
    have hlx : X.length ≤ Y.length := by omega
    clear hl hl1 hl2
    go_enter Tryd.func17, Tryd.ntmps17
    go_wp2
    go_loopw [5] (fun i wr => ∃ j : Nat, j ≤ X.length ∧ i = .int .i64 ((j : Int) - 1) ∧ X.drop j = Y.drop j ∧ Kp w wr) (fun i _ => (intOf i + 1).toNat)
    case atStart => exact ⟨X.length, Nat.le_refl _, rfl, by rw [List.drop_length, List.drop_of_length_le hly], Below.refl _ _⟩
    case round =>
      obtain ⟨j, hj, rfl, hd, K1⟩ := hrel
      have HD := Lib.hid hd
      clear hd
      by_cases hj0 : 0 < j
      · obtain ⟨i, rfl⟩ : ∃ i, j = i + 1 := ⟨j - 1, by omega⟩
        obtain ⟨ab, aoff, x, rfl, hcell, hx, HX⟩ := (A4.kp K1).at A3.out i (by omega)
        obtain ⟨bb, boff, y, rfl, hcell2, hy, HY⟩ := (B4.kp K1).at B3.out i (by omega)
        rcases Nat.lt_trichotomy x y with h | h | h
        · have hc : -1 = cmpv (val X) (val Y) := (cmpv_lt (lt_at A3.out HD.out HL.out (by omega) (by rw [← HX.out, ← HY.out]; exact h))).symm
          have HC := Lib.hid hc
          clear hc
          go_wp2
          go_quiet (fail)
          go_wp2
          go_ret
          exact ⟨ret_int HC.out, K1.drewN _⟩
        · have hd2 : X.drop i = Y.drop i := by
            rw [drop_cons X i (by omega), drop_cons Y i (by omega), HD.out, ← HX.out, ← HY.out, h]
          have HD2 := Lib.hid hd2
          have h1 : ¬ x < y := by omega
          have h2 : ¬ y < x := by omega
          clear hd2 h
          go_wp2
          go_quiet (fail)
          go_wp2
          go_quiet (fail)
          go_wp2
          go_roundw
          case rel => exact ⟨i, by omega, by go_num, HD2.out, K1.drewN _⟩
          case measure => simp [intOf]
        · have hc : 1 = cmpv (val X) (val Y) := (cmpv_gt (lt_at B3.out HD.out.symm HL.out.symm (by omega) (by rw [← HX.out, ← HY.out]; exact h))).symm
          have HC := Lib.hid hc
          have h1 : ¬ x < y := by omega
          clear hc
          go_wp2
          go_quiet (fail)
          go_wp2
          go_quiet (fail)
          go_wp2
          go_ret
          exact ⟨ret_int HC.out, (K1.drewN _).drewN _⟩
      · obtain rfl : j = 0 := by omega
        have hc : 0 = cmpv (val X) (val Y) := (cmpv_eq (val_eq_of_drop HD.out)).symm
        have HC := Lib.hid hc
        clear hc
        go_wp2
        go_ret
        exact ⟨ret_int HC.out, K1⟩
  · have hne : (((X.length : Nat) : Int) != (Y.length : Int)) = true := by rw [bne_iff_ne]; omega
    rcases Nat.lt_or_gt_of_ne hl with h | h
    · have HC := Lib.hid (cmpv_lt (hl1.out h)).symm
      clear hl
      go_enter Tryd.func17, Tryd.ntmps17
      go_wp2
      go_ret
      exact ⟨ret_int HC.out, Below.refl _ _⟩
    · have HC := Lib.hid (cmpv_gt (hl2.out h)).symm
      have h1 : ¬ X.length < Y.length := by omega
      clear hl
      go_enter Tryd.func17, Tryd.ntmps17
      go_wp2
      go_ret
      exact ⟨ret_int HC.out, Below.refl _ _⟩

theorem rof_any (n : Nat) (w : World) (hn : n < 18446744073709551616) :
    Calls Tryd.prog 22 #[.int .u64 n] w fun e w' => ∃ v', e = .returned v' ∧ M w' v' n ∧ Kp w w' := by
  have hL : Limbs [n % 4294967296, n / 4294967296] := Limbs.cons (by omega) (Limbs.cons (by omega) Limbs.nil)
  have hv : val [n % 4294967296, n / 4294967296] = n := by simp [val]; omega
  have ht := toL_val hL
  rw [hv] at ht
  have HO : Rd (w.alloc (.cells (cellsOf [n % 4294967296, n / 4294967296]).toArray 45)) (.slice (some ⟨w.heap.size, 0, none⟩) 2 2) [n % 4294967296, n / 4294967296] := Rd.lit w _ _ hL 2 rfl (by unfold maxLen; omega)
  have HT := Lib.hid (trim_any _ _ _ HO (by simp))
  rw [← ht] at HT
  clear hL hv ht HO
  go_enter Tryd.func22, Tryd.ntmps22
  go_wp2_with (go_at_call 39; refine HT.out.mono ?_; rintro e w1 ⟨v1, rfl, h1, k1⟩)
  go_ret
  exact ⟨_, rfl, h1, (Kp.alloc _ _).tr k1⟩

/-- The number of binary digits of a number. -/
def bitsN (n : Nat) : Nat := if n = 0 then 0 else n.log2 + 1

theorem bitLen_32 {x : Nat} (h : x < 4294967296) (h0 : x ≠ 0) : 1 ≤ Lib.bitLen x ∧ 2 ^ (Lib.bitLen x - 1) ≤ x ∧ x < 2 ^ Lib.bitLen x ∧ Lib.bitLen x ≤ 32 := by
  obtain ⟨h1, h2, h3⟩ := Lib.bitLenAux_bounds 64 x (by omega) h0
  refine ⟨h1, h2, h3, ?_⟩
  rcases Nat.lt_or_ge 32 (Lib.bitLen x) with h4 | h4
  · have h5 : 2 ^ 32 ≤ 2 ^ (Lib.bitLen x - 1) := Nat.pow_le_pow_right (by omega) (by omega)
    have h6 : 2 ^ (Lib.bitLen x - 1) ≤ x := h2
    omega
  · exact h4

theorem bitLen_le32 {x : Nat} (h : x < 4294967296) : Lib.bitLen x ≤ 32 := by
  by_cases h0 : x = 0
  · subst h0; decide
  · exact (bitLen_32 h h0).2.2.2

theorem bitsN_of {n k : Nat} (h1 : 2 ^ k ≤ n) (h2 : n < 2 ^ (k + 1)) : bitsN n = k + 1 := by
  have h0 : n ≠ 0 := by have := Nat.pow_pos (n := k) (show 0 < 2 by omega); omega
  unfold bitsN
  rw [if_neg h0, (Nat.log2_eq_iff h0).2 ⟨h1, h2⟩]

theorem bitsN_spec {n : Nat} (h : n ≠ 0) : 2 ^ (bitsN n - 1) ≤ n ∧ n < 2 ^ bitsN n ∧ 1 ≤ bitsN n := by
  unfold bitsN
  rw [if_neg h]
  exact ⟨Nat.log2_self_le h, Nat.lt_log2_self, by omega⟩

/-- The digits of a magnitude, out of its highest limb. -/
theorem bitsN_top {X : List Nat} (hx : Limbs X) (h : 0 < X.length) (ht : X.getD (X.length - 1) 0 ≠ 0) : bitsN (val X) = 32 * (X.length - 1) + Lib.bitLen (X.getD (X.length - 1) 0) := by
  obtain ⟨j, hj⟩ : ∃ j, X.length = j + 1 := ⟨X.length - 1, by omega⟩
  rw [hj, Nat.add_sub_cancel] at ht ⊢
  have hv : val X = val (X.take j) + 4294967296 ^ j * X.getD j 0 := by
    have := val_take_succ X j (by omega)
    rwa [← hj, List.take_length] at this
  have hlt := val_lt (hx.take j)
  rw [List.length_take, Nat.min_eq_left (by omega)] at hlt
  obtain ⟨b1, b2, b3, b4⟩ := bitLen_32 (hx.getD j) ht
  have ep : 4294967296 ^ j = 2 ^ (32 * j) := by rw [Nat.pow_mul]
  rw [ep] at hv hlt
  obtain ⟨b, hb⟩ : ∃ b, Lib.bitLen (X.getD j 0) = b + 1 := ⟨Lib.bitLen (X.getD j 0) - 1, by omega⟩
  rw [hb, Nat.add_sub_cancel] at b2
  rw [hb] at b3 ⊢
  rw [← Nat.add_assoc]
  apply bitsN_of
  · rw [Nat.pow_add, hv]
    have := Nat.mul_le_mul_left (2 ^ (32 * j)) b2
    omega
  · rw [Nat.add_assoc, Nat.pow_add, hv]
    have := Nat.mul_le_mul_left (2 ^ (32 * j)) (show X.getD j 0 + 1 ≤ 2 ^ (b + 1) from b3)
    rw [Nat.mul_add, Nat.mul_one] at this
    omega

theorem bitsN_toL (n : Nat) (h : 0 < (toL n).length) : bitsN n = 32 * ((toL n).length - 1) + Lib.bitLen ((toL n).getD ((toL n).length - 1) 0) := by
  have := bitsN_top (limbs_toL n) h (toL_top n h)
  rwa [val_toL] at this

theorem bitsN_zero : bitsN 0 = 0 := rfl

set_option maxHeartbeats 400000 in
theorem nbits_any (v : Value) (n : Nat) (w : World) (h : M w v n) (hl : (toL n).length ≤ 1099511627776) :
    Calls Tryd.prog 18 #[v] w fun e w' => e = .returned (.int .i64 (bitsN n)) ∧ w = w' := by
  obtain ⟨ao, cap, rfl, h1, h2, h3, h4⟩ := h
  have HT := Lib.hid (ntrim_at ao cap _ w h1 h2 h4)
  rw [trimL_toL] at HT
  unfold maxLen at h2
  rcases Nat.eq_zero_or_pos (toL n).length with h0 | h0
  · have hn : n = 0 := (toL_nil_iff n).1 (List.eq_nil_of_length_eq_zero h0)
    have he : ((((toL n).length : Nat) : Int) == 0) = true := beq_iff_eq.2 (by omega)
    have HB := Lib.hid (show (0 : Int) = ((bitsN n : Nat) : Int) by rw [hn]; rfl)
    clear hn h3 h4 h0
    go_enter Tryd.func18, Tryd.ntmps18
    go_wp2_with (go_at_call 40; refine HT.out.mono ?_; rintro e w1 ⟨rfl, rfl⟩)
    go_ret
    exact ⟨ret_int HB.out, rfl⟩
  · have he : ((((toL n).length : Nat) : Int) == 0) = false := beq_eq_false_iff_ne.2 (by omega)
    obtain ⟨b, off, x, rfl, hcell, hx, HX⟩ := h4.at h3 ((toL n).length - 1) (by omega)
    have hb := bitsN_toL n h0
    rw [← HX.out] at hb
    have hle := bitLen_le32 hx
    have HLEN := Lib.hid (Tryd.bits_Len32 (x : Int) w (by omega) (by omega))
    rw [Int.toNat_natCast] at HLEN
    have HB := Lib.hid hb
    obtain ⟨l, hll⟩ : ∃ l, l = (toL n).length := ⟨_, rfl⟩
    obtain ⟨bl, hbl⟩ : ∃ bl, bl = Lib.bitLen x := ⟨_, rfl⟩
    rw [← hll] at HT h1 hl h0 he hcell HB ⊢
    rw [← hbl] at hle HLEN HB
    clear hb h3 h4 hll hbl HX
    go_enter Tryd.func18, Tryd.ntmps18
    go_wp2_with (first
      | (go_at_call 40; refine HT.out.mono ?_; rintro e w1 ⟨rfl, rfl⟩)
      | (go_at_call 43; refine HLEN.out.mono ?_; rintro e w1 ⟨rfl, rfl⟩))
    go_ret
    exact ⟨ret_int (by rw [HB.out]; omega), rfl⟩

set_option maxHeartbeats 400000 in
theorem rbits_any (v : Value) (n : Nat) (w : World) (h : M w v n) (hl : (toL n).length ≤ 1099511627776) :
    Calls Tryd.prog 19 #[v] w fun e w' => e = .returned (.int .i64 (bitsN n)) ∧ w = w' := by
  obtain ⟨ao, cap, rfl, h1, h2, h3, h4⟩ := h
  unfold maxLen at h2
  rcases Nat.eq_zero_or_pos (toL n).length with h0 | h0
  · have hn : n = 0 := (toL_nil_iff n).1 (List.eq_nil_of_length_eq_zero h0)
    have he : ((((toL n).length : Nat) : Int) == 0) = true := beq_iff_eq.2 (by omega)
    have HB := Lib.hid (show (0 : Int) = ((bitsN n : Nat) : Int) by rw [hn]; rfl)
    clear hn h3 h4 h0
    go_enter Tryd.func19, Tryd.ntmps19
    go_wp2
    go_ret
    exact ⟨ret_int HB.out, rfl⟩
  · have he : ((((toL n).length : Nat) : Int) == 0) = false := beq_eq_false_iff_ne.2 (by omega)
    obtain ⟨b, off, x, rfl, hcell, hx, HX⟩ := h4.at h3 ((toL n).length - 1) (by omega)
    have hb := bitsN_toL n h0
    rw [← HX.out] at hb
    have hle := bitLen_le32 hx
    have HB := Lib.hid hb
    obtain ⟨l, hll⟩ : ∃ l, l = (toL n).length := ⟨_, rfl⟩
    rw [← hll] at h1 hl h0 he hcell HB ⊢
    clear hb h3 h4 hll HX
    go_enter Tryd.func19, Tryd.ntmps19
    go_wp2
    go_loop [3, 4] (fun cv xv => ∃ c y : Nat, cv = .int .i64 (32 * ((l : Int) - 1) + c) ∧ xv = .int .u32 y ∧ y < 4294967296 ∧ c + Lib.bitLen y = Lib.bitLen x) (fun _ xv => (intOf xv).toNat)
    case atStart => exact ⟨0, x, by go_num, rfl, hx, by omega⟩
    case round =>
      obtain ⟨c, y, rfl, rfl, hy, hcy⟩ := hrel
      have HCY := Lib.hid hcy
      have hc : c ≤ 32 := by omega
      clear hcy
      by_cases hy0 : y = 0
      · have hne : (((y : Nat) : Int) != 0) = false := by rw [hy0]; rfl
        have hfin : c = Lib.bitLen x := by
          have h5 := HCY.out
          rw [hy0, show Lib.bitLen 0 = 0 by decide] at h5
          omega
        have HF := Lib.hid hfin
        clear hy0 hfin
        go_wp2
        go_ret
        exact ⟨ret_int (by rw [HB.out, HF.out]; omega), rfl⟩
      · have hne : (((y : Nat) : Int) != 0) = true := by rw [bne_iff_ne]; omega
        have h5 := Lib.bitLen_half y hy0 (by omega)
        have HF := Lib.hid (show (c + 1) + Lib.bitLen (y / 2) = Lib.bitLen x by have := HCY.out; omega)
        have hyp : 0 < y := by omega
        clear hy0 h5
        go_wp2
        go_round
        case rel => exact ⟨c + 1, y / 2, by go_num, by go_num, by omega, HF.out⟩
        case measure => simp [intOf]; omega
end Go.Proofs.YtijadodleiiomaaDoor
