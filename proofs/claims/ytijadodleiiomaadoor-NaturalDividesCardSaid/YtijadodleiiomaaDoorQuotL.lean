/-
  brepkernellaw01.NaturalQuotient, by the contracts.
-/
import Derived.Test.YtijadodleiiomaaDoorGcd
namespace Go.Proofs.YtijadodleiiomaaDoor
open Go.RowKit

theorem div_m {w : World} {a b : Value} {m n : Nat} (ha : M w a m) (hb : M w b n) {k : Nat} (hs : Sz k m) (hk : k ≤ 549755813888) (hn : n ≠ 0) (hT : Tz w) :
    Calls Tryd.prog 29 #[a, b] w fun e w' => ∃ q r, e = .returned (.tuple #[q, r, .int .i64 0]) ∧ M w' q (m / n) ∧ M w' r (m % n) ∧ Kp w w' := by
  refine (div_any ha hb hs hk hn hT).mono ?_
  rintro e w' ⟨q, r, he, hq, hr, k⟩
  exact ⟨q, r, he, hq, hr.m, k⟩

theorem div_none {w : World} {a b : Value} {m n : Nat} (ha : M w a m) (hb : M w b n) (hn : n = 0) :
    Calls Tryd.prog 29 #[a, b] w fun e w' => e = .returned (.tuple #[.slice none 0 0, .slice none 0 0, .int .i64 3]) ∧ Kp w w' := by
  subst hn
  refine (div_zero ha hb).mono ?_
  rintro e w' ⟨he, rfl⟩
  exact ⟨he, Below.refl _ _⟩

theorem m_zero {w : World} {v : Value} (h : M w v 0) : ∃ o c, v = .slice o 0 c := by
  obtain ⟨o, c, e, _⟩ := h
  rw [toL_zero] at e
  exact ⟨o, c, e⟩

theorem div_exact {w : World} {a b : Value} {m n : Nat} (ha : M w a m) (hb : M w b n) {k : Nat} (hs : Sz k m) (hk : k ≤ 549755813888) (hn : n ≠ 0) (hd : n ∣ m) (hT : Tz w) :
    Calls Tryd.prog 29 #[a, b] w fun e w' => ∃ q o c, e = .returned (.tuple #[q, .slice o 0 c, .int .i64 0]) ∧ Kp w w' := by
  refine (div_m ha hb hs hk hn hT).mono ?_
  rintro e w' ⟨q, r, he, hq, hr, k⟩
  rw [Nat.mod_eq_zero_of_dvd hd] at hr
  obtain ⟨o, c, rfl⟩ := m_zero hr
  exact ⟨q, o, c, he, k⟩

theorem cmp_less {w : World} {a b : Value} {m n : Nat} (ha : M w a m) (hb : M w b n) (h : m < n) :
    Calls Tryd.prog 16 #[a, b] w fun e w' => e = .returned (.int .i64 (-1)) ∧ Kp w w' := by
  have := cmp_any a b _ _ w ha hb
  rw [val_toL, val_toL, cmpv_lt h] at this
  exact this

theorem mag_slice2 {w : World} {v : Value} {n k : Nat} (h : M w v n) (hk : k = (toL n).length) : ∃ o c, v = .slice o k c := by
  obtain ⟨o, c, e, _⟩ := h
  exact ⟨o, c, by rw [hk, e]⟩

set_option maxRecDepth 20000 in
set_option maxHeartbeats 4000000 in
theorem quotient_walk (a b : Value) (xs ys : List Nat) (w : World) (ha : Rd w a xs) (hb : Rd w b ys)
    (htab : Lib.TabIs Tryd.prog w "internal/strconv.uint64pow10" .u64 Lib.pow10Tab) (hZ : Tz w) :
    Calls Tryd.prog 9 #[a, b] w fun e w' => e = .returned (.bool true) ∧ Kp w w' := by
  have HT := Lib.tabBelow_of_tabIs htab
  have HAW := Lib.hid (awake_any w htab)
  have HZ := Lib.hid hZ
  clear hZ
  by_cases hl : xs.length ≤ 40 ∧ ys.length ≤ 40
  · have HL := Lib.hid (light_yes ha hb hl.1 hl.2)
    have SX := Sz.val (by obtain ⟨_, _, _, _, _, h, _⟩ := ha; exact h) 40 hl.1
    have SY := Sz.val (by obtain ⟨_, _, _, _, _, h, _⟩ := hb; exact h) 40 hl.2
    have K : Kp w w := Below.refl _ _
    obtain ⟨hl1, hl2⟩ := hl
    clear htab
    obtain ⟨ly, hly⟩ : ∃ l, l = (toL (val ys)).length := ⟨_, rfl⟩
    have HLY := Lib.hid hly
    have hly2 : ly ≤ 40 := by rw [hly]; exact SY
    by_cases h0 : val ys = 0
    · have hl0 : ly = 0 := by rw [hly, h0, toL_zero]; rfl
      subst hl0
      have HY0 := Lib.hid h0
      clear h0 hly
      go_enter Tryd.func9, Tryd.ntmps9
      go_wp2_with (go_at_call 11; refine HL.out.mono ?_; rintro e w1 ⟨rfl, rfl⟩; refine Hid.out ?_)
      refine Lib.hid ?_
      go_wp2_with (go_at_call 13; (with_reducible refine (mag_m ha (by omega)).mono ?_); rintro e w11 ⟨vx, rfl, mx, k1⟩; refine Hid.out ?_)
      refine Lib.hid ?_
      clear ha
      replace hb := hb.kp k1
      replace K := K.tr k1
      go_wp2_with (go_at_call 13; (with_reducible refine (mag_m hb (by omega)).mono ?_); rintro e w12 ⟨vy, rfl, my, k2⟩; refine Hid.out ?_)
      refine Lib.hid ?_
      clear hb
      replace mx := mx.kp k2
      replace K := K.tr k2
      obtain ⟨yo, yc, rfl⟩ := mag_slice2 my HLY.out
      go_wp2_with (go_at_call 29; (with_reducible refine (div_none mx my HY0.out).mono ?_); rintro e w13 ⟨rfl, k3⟩; refine Hid.out ?_)
      refine Lib.hid ?_
      replace mx := mx.kp k3
      replace my := my.kp k3
      replace K := K.tr k3
      have HAW2 := Lib.hid (awake_any _ (tabKp HT K))
      go_wp2_with (go_at_call 12; (with_reducible refine HAW2.out.mono ?_); rintro e w1 ⟨rfl, K1⟩)
      go_ret
      exact ⟨rfl, K.tr K1⟩
    · have hl0 : 0 < ly := by
        rcases Nat.eq_zero_or_pos ly with h | h
        · exact absurd ((toL_nil_iff _).1 (List.length_eq_zero_iff.1 (hly ▸ h))) h0
        · exact h
      have hl0i : ((ly : Int) == 0) = false := beq_eq_false_iff_ne.2 (by omega)
      have HY0 := Lib.hid h0
      have HG0 := Lib.hid (show Nat.gcd (val xs) (val ys) ≠ 0 from Nat.ne_of_gt (Nat.gcd_pos_of_pos_right _ (Nat.pos_of_ne_zero h0)))
      have HRL := Lib.hid (Nat.mod_lt (val xs) (Nat.pos_of_ne_zero h0))
      have SQ := Lib.hid (show Sz 40 (val xs / val ys) from SX.le (Nat.div_le_self _ _))
      have SR := Lib.hid (show Sz 40 (val xs % val ys) from SX.le (Nat.mod_le _ _))
      have HEQ := Lib.hid (show val xs / val ys * val ys + val xs % val ys = val xs from Nat.div_add_mod' _ _)
      clear h0 hly
      go_enter Tryd.func9, Tryd.ntmps9
      go_wp2_with (go_at_call 11; refine HL.out.mono ?_; rintro e w1 ⟨rfl, rfl⟩; refine Hid.out ?_)
      refine Lib.hid ?_
      go_wp2_with (go_at_call 13; (with_reducible refine (mag_m ha (by omega)).mono ?_); rintro e w11 ⟨vx, rfl, mx, k1⟩; refine Hid.out ?_)
      refine Lib.hid ?_
      clear ha
      replace hb := hb.kp k1
      replace K := K.tr k1
      go_wp2_with (go_at_call 13; (with_reducible refine (mag_m hb (by omega)).mono ?_); rintro e w12 ⟨vy, rfl, my, k2⟩; refine Hid.out ?_)
      refine Lib.hid ?_
      clear hb
      replace mx := mx.kp k2
      replace K := K.tr k2
      obtain ⟨yo, yc, rfl⟩ := mag_slice2 my HLY.out
      go_wp2_with (go_at_call 29; (with_reducible refine (div_m mx my SX (by omega) HY0.out (HZ.out.kp K)).mono ?_); rintro e w13 ⟨vq, vr, rfl, mq, mr, k3⟩; refine Hid.out ?_)
      refine Lib.hid ?_
      replace mx := mx.kp k3
      replace my := my.kp k3
      replace K := K.tr k3
      go_wp2_with (go_at_call 31; (with_reducible refine (gcd_any mx my (Nat.le_trans SX (by omega)) (Nat.le_trans SY (by omega)) (HZ.out.kp K)).mono ?_); rintro e w14 ⟨vg, rfl, mg, k4⟩; refine Hid.out ?_)
      refine Lib.hid ?_
      replace mx := mx.kp k4
      replace my := my.kp k4
      replace mq := mq.kp k4
      replace mr := mr.kp k4
      replace K := K.tr k4
      go_wp2_with (go_at_call 29; (with_reducible refine (div_exact mx mg SX (by omega) HG0.out (Nat.gcd_dvd_left _ _) (HZ.out.kp K)).mono ?_); rintro e w15 ⟨vx2, so, sc, rfl, k5⟩; refine Hid.out ?_)
      refine Lib.hid ?_
      replace mx := mx.kp k5
      replace my := my.kp k5
      replace mq := mq.kp k5
      replace mr := mr.kp k5
      replace mg := mg.kp k5
      replace K := K.tr k5
      go_wp2_with (go_at_call 29; (with_reducible refine (div_exact my mg SY (by omega) HG0.out (Nat.gcd_dvd_right _ _) (HZ.out.kp K)).mono ?_); rintro e w16 ⟨vy2, uo, uc, rfl, k6⟩; refine Hid.out ?_)
      refine Lib.hid ?_
      clear mg
      replace mx := mx.kp k6
      replace my := my.kp k6
      replace mq := mq.kp k6
      replace mr := mr.kp k6
      replace K := K.tr k6
      go_wp2_with (go_at_call 16; (with_reducible refine (cmp_less mr my HRL.out).mono ?_); rintro e w17 ⟨rfl, k7⟩; refine Hid.out ?_)
      refine Lib.hid ?_
      replace mx := mx.kp k7
      replace my := my.kp k7
      replace mq := mq.kp k7
      replace mr := mr.kp k7
      replace K := K.tr k7
      go_wp2_with (go_at_call 27; (with_reducible refine (mul_m mq my SQ.out SY (by omega) (by omega)).mono ?_); rintro e w18 ⟨vp, rfl, mp, k8⟩; refine Hid.out ?_)
      refine Lib.hid ?_
      clear mq
      clear my
      replace mx := mx.kp k8
      replace mr := mr.kp k8
      replace K := K.tr k8
      go_wp2_with (go_at_call 25; (with_reducible refine (add_m mp mr (SQ.out.mul SY) SR.out (by omega) (by omega)).mono ?_); rintro e w19 ⟨vs, rfl, ms, k9⟩; refine Hid.out ?_)
      refine Lib.hid ?_
      clear mp
      clear mr
      replace mx := mx.kp k9
      replace K := K.tr k9
      go_wp2_with (go_at_call 20; (with_reducible refine (same_m ms mx (HEQ.out)).mono ?_); rintro e w20 ⟨rfl, k10⟩; refine Hid.out ?_)
      refine Lib.hid ?_
      clear ms
      clear mx
      replace K := K.tr k10
      have HAW2 := Lib.hid (awake_any _ (tabKp HT K))
      go_wp2_with (go_at_call 12; (with_reducible refine HAW2.out.mono ?_); rintro e w1 ⟨rfl, K1⟩)
      go_ret
      exact ⟨rfl, K.tr K1⟩
  · have HL := Lib.hid (light_no ha hb hl)
    clear htab ha hb hl
    go_enter Tryd.func9, Tryd.ntmps9
    go_wp2_with (first
      | (go_at_call 11; refine HL.out.mono ?_; rintro e w1 ⟨rfl, rfl⟩)
      | (go_at_call 12; refine HAW.out.mono ?_; rintro e w1 ⟨rfl, K1⟩))
    go_ret
    exact ⟨rfl, K1⟩
end Go.Proofs.YtijadodleiiomaaDoor
