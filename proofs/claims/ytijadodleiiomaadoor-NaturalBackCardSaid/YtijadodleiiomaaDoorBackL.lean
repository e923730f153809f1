/-
  brepkernellaw01.NaturalBack, by the contracts.
-/
import Derived.Test.YtijadodleiiomaaDoorRShift
import Derived.Test.YtijadodleiiomaaDoorParse3
import Derived.WalkSpells
namespace Go.Proofs.YtijadodleiiomaaDoor
open Go.RowKit
open Go.Lib (decDigits)

theorem dec_digits (n : Nat) : digits (decDigits n) = true ∧ dval (decDigits n) = n := by
  induction n using Nat.strongRecOn with
  | _ n ih =>
    rw [decDigits]
    by_cases h : n < 10
    · rw [dif_pos h]
      have e : (UInt8.ofNat (48 + n)).toNat = 48 + n := by rw [UInt8.toNat_ofNat']; omega
      constructor
      · simp only [digits, List.all_cons, List.all_nil, Bool.and_true, isDig, e]
        simp; omega
      · simp only [dval, List.foldl_cons, List.foldl_nil, dnext, e]
        omega
    · rw [dif_neg h]
      have e : (UInt8.ofNat (48 + n % 10)).toNat = 48 + n % 10 := by rw [UInt8.toNat_ofNat']; omega
      obtain ⟨i1, i2⟩ := ih (n / 10) (by omega)
      constructor
      · have i1' := i1
        unfold digits at i1' ⊢
        rw [List.all_append, i1']
        simp only [List.all_cons, List.all_nil, Bool.and_true, Bool.true_and, isDig, e]
        simp; omega
      · rw [dval_snoc, i2, e]
        omega

theorem dec_pos (n : Nat) : 0 < (decDigits n).length := by
  rw [decDigits]
  split <;> simp

theorem parse_dec {n : Nat} {w : World} (h : (decDigits n).length ≤ 4096) :
    Calls Tryd.prog 35 #[.string ⟨(decDigits n).toArray⟩] w fun e w' => ∃ v', e = .returned (.tuple #[v', .int .i64 0]) ∧ M w' v' n ∧ Kp w w' := by
  have := parse_good ⟨(decDigits n).toArray⟩ w h (dec_digits n).1 (dec_pos n)
  rw [(dec_digits n).2] at this
  exact this

theorem text_m {w : World} {v : Value} {n : Nat} (h : M w v n) (hl : (toL n).length ≤ 1099511627776) (htab : Lib.TabIs Tryd.prog w "internal/strconv.uint64pow10" .u64 Lib.pow10Tab) :
    Calls Tryd.prog 37 #[v] w fun e w' => e = .returned (.string ⟨(decDigits n).toArray⟩) ∧ Kp w w' := by
  have := text_any v _ w h hl htab
  rw [val_toL] at this
  exact this

theorem shift_neg {w : World} {a : Value} {m : Nat} (ha : M w a m) {k : Nat} (hs : Sz k m) (hk : k ≤ 549755813888) (d : Nat) (hd : d ≤ 16384) :
    Calls Tryd.prog 33 #[a, .int .i64 (-(d : Int))] w fun e w' => ∃ v', e = .returned (.tuple #[v', .int .i64 0]) ∧ M w' v' (m / 2 ^ d) ∧ Kp w w' := by
  by_cases h : 0 < d
  · exact shift_down ha hs hk d h (by omega)
  · obtain rfl : d = 0 := by omega
    have := shift_up ha hs hk 0 hd
    rw [show m * 2 ^ 0 = m / 2 ^ 0 by simp] at this
    exact this

theorem shift_back (m n : Nat) : m * 2 ^ n / 2 ^ n = m := Nat.mul_div_cancel _ (Nat.pow_pos (by omega))

theorem mag_slice {w : World} {v : Value} {n k : Nat} (h : M w v n) (hk : k = (toL n).length) : ∃ o c, v = .slice o k c := by
  obtain ⟨o, c, e, _⟩ := h
  exact ⟨o, c, by rw [hk, e]⟩

theorem nbits_as {w : World} {v : Value} {n b : Nat} (h : M w v n) (hl : (toL n).length ≤ 1099511627776) (hb : b = bitsN n) :
    Calls Tryd.prog 18 #[v] w fun e w' => e = .returned (.int .i64 (b : Nat)) ∧ w = w' := by
  subst hb
  exact nbits_any v n w h hl

theorem bits_shift {m n : Nat} (h : m ≠ 0) : bitsN (m * 2 ^ n) = bitsN m + n := by
  obtain ⟨h1, h2, h3⟩ := bitsN_spec h
  have e : bitsN m + n = (bitsN m - 1 + n) + 1 := by omega
  rw [e]
  apply bitsN_of
  · rw [Nat.pow_add]
    exact Nat.mul_le_mul_right _ h1
  · rw [← e, Nat.pow_add]
    exact Nat.mul_lt_mul_of_pos_right h2 (Nat.pow_pos (by omega))

theorem bits_le {m k : Nat} (h : m ≠ 0) (hs : Sz k m) : bitsN m ≤ 32 * k := by
  have h0 : 0 < (toL m).length := by
    by_cases e : 0 < (toL m).length
    · exact e
    · exfalso
      apply h
      have e2 : toL m = [] := List.eq_nil_of_length_eq_zero (by omega)
      have := val_toL m
      rw [e2] at this
      exact this.symm
  rw [bitsN_toL m h0]
  have := bitLen_le32 (limbs_toL m |>.getD ((toL m).length - 1))
  have hs' : (toL m).length ≤ k := hs
  omega

theorem Sz.shift {k m : Nat} (h : Sz k m) (n : Nat) : Sz (k + (n + 1)) (m * 2 ^ n) := by
  refine Sz.mul h (?_ : Sz (n + 1) (2 ^ n))
  apply length_toL_le
  rw [show 4294967296 = 2 ^ 32 from rfl, ← Nat.pow_mul]
  exact Nat.pow_lt_pow_right (by omega) (by omega)

theorem lt_of_sz {k m : Nat} (h : Sz k m) : m < 4294967296 ^ k := Nat.lt_of_lt_of_le (toL_lt m) (Nat.pow_le_pow_right (by omega) h)

theorem dec_len_sz {k m : Nat} (h : Sz k m) : (decDigits m).length ≤ 10 * k + 1 := dec_len m k (lt_of_sz h)

set_option maxHeartbeats 4000000 in
theorem back_walk (a b : Value) (xs ys : List Nat) (n : Nat) (hn : n < 256) (w : World) (ha : Rd w a xs) (hb : Rd w b ys)
    (htab : Lib.TabIs Tryd.prog w "internal/strconv.uint64pow10" .u64 Lib.pow10Tab) :
    Calls Tryd.prog 10 #[a, b, .int .u8 (n : Nat)] w fun e w' => e = .returned (.bool true) ∧ Kp w w' := by
  have HT := Lib.tabBelow_of_tabIs htab
  have HAW := Lib.hid (awake_any w htab)
  by_cases hl : xs.length ≤ 40 ∧ ys.length ≤ 40
  · have HL := Lib.hid (light_yes ha hb hl.1 hl.2)
    have SX := Sz.val (by obtain ⟨_, _, _, _, _, h, _⟩ := ha; exact h) 40 hl.1
    have SY := Sz.val (by obtain ⟨_, _, _, _, _, h, _⟩ := hb; exact h) 40 hl.2
    have K : Kp w w := Below.refl _ _
    obtain ⟨hl1, hl2⟩ := hl
    have HN := Lib.hid (show n ≤ 16384 by omega)
    have HSN := Lib.hid (show 40 + (n + 1) ≤ 549755813888 by omega)
    have HSN2 := Lib.hid (show 40 + (n + 1) ≤ 1099511627776 by omega)
    have HDL := Lib.hid (show (decDigits (val xs)).length ≤ 4096 by have := dec_len_sz SX; omega)
    obtain ⟨k, hk⟩ : ∃ k, k = (toL (val xs)).length := ⟨_, rfl⟩
    have HK := Lib.hid hk
    by_cases h0 : val xs = 0
    · have hk0 : k = 0 := by rw [hk, h0, toL_zero]; rfl
      subst hk0
      clear htab hk h0
      go_enter Tryd.func10, Tryd.ntmps10
      go_wp2_with (go_at_call 11; refine HL.out.mono ?_; rintro e w1 ⟨rfl, rfl⟩; refine Hid.out ?_)
      refine Lib.hid ?_
      go_wp2_with (go_at_call 13; (with_reducible refine (mag_m ha (by omega)).mono ?_); rintro e w11 ⟨vx, rfl, mx, k1⟩; refine Hid.out ?_)
      refine Lib.hid ?_
      clear ha
      replace hb := hb.kp k1
      replace K := K.tr k1
      go_wp2_with (go_at_call 13; (with_reducible refine (mag_m hb (by omega)).mono ?_); rintro e w12 ⟨vy, rfl, my, k2⟩; refine Hid.out ?_)
      refine Lib.hid ?_
      clear hb
      replace mx := mx.kp k2
      replace K := K.tr k2
      obtain ⟨xo, xc, rfl⟩ := mag_slice mx HK.out
      go_wp2_with (go_at_call 37; (with_reducible refine (text_m mx (Nat.le_trans SX (by omega)) (tabKp HT K)).mono ?_); rintro e w13 ⟨rfl, k3⟩; refine Hid.out ?_)
      refine Lib.hid ?_
      replace mx := mx.kp k3
      replace my := my.kp k3
      replace K := K.tr k3
      go_wp2_with (go_at_call 35; (with_reducible refine (parse_dec HDL.out).mono ?_); rintro e w14 ⟨vp, rfl, mp, k4⟩; refine Hid.out ?_)
      refine Lib.hid ?_
      replace mx := mx.kp k4
      replace my := my.kp k4
      replace K := K.tr k4
      go_wp2_with (go_at_call 33; (with_reducible refine (shift_up mx SX (by omega) n HN.out).mono ?_); rintro e w15 ⟨vq, rfl, mq, k5⟩; refine Hid.out ?_)
      refine Lib.hid ?_
      replace mx := mx.kp k5
      replace my := my.kp k5
      replace mp := mp.kp k5
      replace K := K.tr k5
      go_wp2_with (go_at_call 33; (with_reducible refine (shift_neg mq (SX.shift n) HSN.out n HN.out).mono ?_); rintro e w16 ⟨vs, rfl, ms, k6⟩; refine Hid.out ?_)
      refine Lib.hid ?_
      replace mx := mx.kp k6
      replace my := my.kp k6
      replace mp := mp.kp k6
      replace mq := mq.kp k6
      replace K := K.tr k6
      go_wp2_with (go_at_call 25; (with_reducible refine (add_m mx my SX SY (by omega) (by omega)).mono ?_); rintro e w17 ⟨vz, rfl, mz, k7⟩; refine Hid.out ?_)
      refine Lib.hid ?_
      replace mx := mx.kp k7
      replace my := my.kp k7
      replace mp := mp.kp k7
      replace mq := mq.kp k7
      replace ms := ms.kp k7
      replace K := K.tr k7
      go_wp2_with (go_at_call 23; (with_reducible refine (sub_any _ _ _ _ _ mz my (Nat.le_trans (SX.add SY) (by omega)) (Nat.le_add_left _ _)).mono ?_); rintro e w18 ⟨vd, rfl, md, k8⟩; refine Hid.out ?_)
      refine Lib.hid ?_
      clear mz
      clear my
      replace mx := mx.kp k8
      replace mp := mp.kp k8
      replace mq := mq.kp k8
      replace ms := ms.kp k8
      replace K := K.tr k8
      go_wp2_with (go_at_call 20; (with_reducible refine (same_m mp mx (rfl)).mono ?_); rintro e w19 ⟨rfl, k9⟩; refine Hid.out ?_)
      refine Lib.hid ?_
      clear mp
      replace mx := mx.kp k9
      replace mq := mq.kp k9
      replace ms := ms.kp k9
      replace md := md.kp k9
      replace K := K.tr k9
      go_wp2_with (go_at_call 20; (with_reducible refine (same_m ms mx (shift_back _ _)).mono ?_); rintro e w20 ⟨rfl, k10⟩; refine Hid.out ?_)
      refine Lib.hid ?_
      clear ms
      replace mx := mx.kp k10
      replace mq := mq.kp k10
      replace md := md.kp k10
      replace K := K.tr k10
      go_wp2_with (go_at_call 20; (with_reducible refine (same_m md mx (Nat.add_sub_cancel ..)).mono ?_); rintro e w21 ⟨rfl, k11⟩; refine Hid.out ?_)
      refine Lib.hid ?_
      clear md
      replace mx := mx.kp k11
      replace mq := mq.kp k11
      replace K := K.tr k11
      have HAW2 := Lib.hid (awake_any _ (tabKp HT K))
      go_wp2_with (go_at_call 12; (with_reducible refine HAW2.out.mono ?_); rintro e w1 ⟨rfl, K1⟩)
      go_ret
      exact ⟨rfl, K.tr K1⟩
    · have hk0 : 0 < k := by
        rw [hk]
        by_cases e : 0 < (toL (val xs)).length
        · exact e
        · exfalso
          apply h0
          have e2 : toL (val xs) = [] := List.eq_nil_of_length_eq_zero (by omega)
          have := val_toL (val xs)
          rw [e2] at this
          exact this.symm
      have hkl : k ≤ 40 := by rw [hk]; exact SX
      obtain ⟨bx, hbx⟩ : ∃ bx, bx = bitsN (val xs) := ⟨_, rfl⟩
      have hbl : bx ≤ 1280 := by rw [hbx]; exact bits_le h0 SX
      have HBQ := Lib.hid (show bx + n = bitsN (val xs * 2 ^ n) by rw [bits_shift h0, hbx])
      have HBX := Lib.hid hbx
      clear htab hk h0 hbx
      go_enter Tryd.func10, Tryd.ntmps10
      go_wp2_with (go_at_call 11; refine HL.out.mono ?_; rintro e w1 ⟨rfl, rfl⟩; refine Hid.out ?_)
      refine Lib.hid ?_
      go_wp2_with (go_at_call 13; (with_reducible refine (mag_m ha (by omega)).mono ?_); rintro e w11 ⟨vx, rfl, mx, k1⟩; refine Hid.out ?_)
      refine Lib.hid ?_
      clear ha
      replace hb := hb.kp k1
      replace K := K.tr k1
      go_wp2_with (go_at_call 13; (with_reducible refine (mag_m hb (by omega)).mono ?_); rintro e w12 ⟨vy, rfl, my, k2⟩; refine Hid.out ?_)
      refine Lib.hid ?_
      clear hb
      replace mx := mx.kp k2
      replace K := K.tr k2
      obtain ⟨xo, xc, rfl⟩ := mag_slice mx HK.out
      go_wp2_with (go_at_call 37; (with_reducible refine (text_m mx (Nat.le_trans SX (by omega)) (tabKp HT K)).mono ?_); rintro e w13 ⟨rfl, k3⟩; refine Hid.out ?_)
      refine Lib.hid ?_
      replace mx := mx.kp k3
      replace my := my.kp k3
      replace K := K.tr k3
      go_wp2_with (go_at_call 35; (with_reducible refine (parse_dec HDL.out).mono ?_); rintro e w14 ⟨vp, rfl, mp, k4⟩; refine Hid.out ?_)
      refine Lib.hid ?_
      replace mx := mx.kp k4
      replace my := my.kp k4
      replace K := K.tr k4
      go_wp2_with (go_at_call 33; (with_reducible refine (shift_up mx SX (by omega) n HN.out).mono ?_); rintro e w15 ⟨vq, rfl, mq, k5⟩; refine Hid.out ?_)
      refine Lib.hid ?_
      replace mx := mx.kp k5
      replace my := my.kp k5
      replace mp := mp.kp k5
      replace K := K.tr k5
      go_wp2_with (go_at_call 33; (with_reducible refine (shift_neg mq (SX.shift n) HSN.out n HN.out).mono ?_); rintro e w16 ⟨vs, rfl, ms, k6⟩; refine Hid.out ?_)
      refine Lib.hid ?_
      replace mx := mx.kp k6
      replace my := my.kp k6
      replace mp := mp.kp k6
      replace mq := mq.kp k6
      replace K := K.tr k6
      go_wp2_with (go_at_call 25; (with_reducible refine (add_m mx my SX SY (by omega) (by omega)).mono ?_); rintro e w17 ⟨vz, rfl, mz, k7⟩; refine Hid.out ?_)
      refine Lib.hid ?_
      replace mx := mx.kp k7
      replace my := my.kp k7
      replace mp := mp.kp k7
      replace mq := mq.kp k7
      replace ms := ms.kp k7
      replace K := K.tr k7
      go_wp2_with (go_at_call 23; (with_reducible refine (sub_any _ _ _ _ _ mz my (Nat.le_trans (SX.add SY) (by omega)) (Nat.le_add_left _ _)).mono ?_); rintro e w18 ⟨vd, rfl, md, k8⟩; refine Hid.out ?_)
      refine Lib.hid ?_
      clear mz
      clear my
      replace mx := mx.kp k8
      replace mp := mp.kp k8
      replace mq := mq.kp k8
      replace ms := ms.kp k8
      replace K := K.tr k8
      go_wp2_with (go_at_call 20; (with_reducible refine (same_m mp mx (rfl)).mono ?_); rintro e w19 ⟨rfl, k9⟩; refine Hid.out ?_)
      refine Lib.hid ?_
      clear mp
      replace mx := mx.kp k9
      replace mq := mq.kp k9
      replace ms := ms.kp k9
      replace md := md.kp k9
      replace K := K.tr k9
      go_wp2_with (go_at_call 20; (with_reducible refine (same_m ms mx (shift_back _ _)).mono ?_); rintro e w20 ⟨rfl, k10⟩; refine Hid.out ?_)
      refine Lib.hid ?_
      clear ms
      replace mx := mx.kp k10
      replace mq := mq.kp k10
      replace md := md.kp k10
      replace K := K.tr k10
      go_wp2_with (go_at_call 20; (with_reducible refine (same_m md mx (Nat.add_sub_cancel ..)).mono ?_); rintro e w21 ⟨rfl, k11⟩; refine Hid.out ?_)
      refine Lib.hid ?_
      clear md
      replace mx := mx.kp k11
      replace mq := mq.kp k11
      replace K := K.tr k11
      go_wp2_with (go_at_call 18; (with_reducible refine (nbits_as mq (Nat.le_trans (SX.shift n) HSN2.out) HBQ.out).mono ?_); rintro e w11 ⟨rfl, rfl⟩; refine Hid.out ?_)
      refine Lib.hid ?_
      go_wp2_with (go_at_call 18; (with_reducible refine (nbits_as mx (Nat.le_trans SX (by omega)) HBX.out).mono ?_); rintro e w12 ⟨rfl, rfl⟩; refine Hid.out ?_)
      refine Lib.hid ?_
      have HAW2 := Lib.hid (awake_any _ (tabKp HT K))
      go_wp2_with (go_at_call 12; (with_reducible refine HAW2.out.mono ?_); rintro e w1 ⟨rfl, K1⟩)
      go_ret
      exact ⟨rfl, K.tr K1⟩
  · have HL := Lib.hid (light_no ha hb hl)
    clear htab ha hb hl
    go_enter Tryd.func10, Tryd.ntmps10
    go_wp2_with (first
      | (go_at_call 11; refine HL.out.mono ?_; rintro e w1 ⟨rfl, rfl⟩)
      | (go_at_call 12; refine HAW.out.mono ?_; rintro e w1 ⟨rfl, K1⟩))
    go_ret
    exact ⟨rfl, K1⟩
end Go.Proofs.YtijadodleiiomaaDoor
