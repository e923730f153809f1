/-
  brepkernellaw01.NaturalAdds, by the contracts.
-/
import Derived.Test.YtijadodleiiomaaDoorRefM
namespace Go.Proofs.YtijadodleiiomaaDoor
open Go.RowKit

theorem m_nil {w : World} : M w (.slice none 0 0) 0 := by
  unfold M
  rw [toL_zero]
  exact ⟨none, 0, rfl, Nat.le_refl _, Nat.zero_le _, Limbs.nil, fun h => absurd rfl h⟩

set_option maxHeartbeats 4000000 in
theorem adds_walk (a b : Value) (xs ys : List Nat) (w : World) (ha : Rd w a xs) (hb : Rd w b ys)
    (htab : Lib.TabIs Tryd.prog w "internal/strconv.uint64pow10" .u64 Lib.pow10Tab) :
    Calls Tryd.prog 4 #[a, b] w fun e w' => e = .returned (.bool true) ∧ Kp w w' := by
  have HT := Lib.tabBelow_of_tabIs htab
  have HAW := Lib.hid (awake_any w htab)
  by_cases hl : xs.length ≤ 40 ∧ ys.length ≤ 40
  · have HL := Lib.hid (light_yes ha hb hl.1 hl.2)
    have SX := Sz.val (by obtain ⟨_, _, _, _, _, h, _⟩ := ha; exact h) 40 hl.1
    have SY := Sz.val (by obtain ⟨_, _, _, _, _, h, _⟩ := hb; exact h) 40 hl.2
    have K : Kp w w := Below.refl _ _
    obtain ⟨hl1, hl2⟩ := hl
    clear htab
    by_cases hc : val xs < val ys
    · have hc' := hc
      go_enter Tryd.func4, Tryd.ntmps4
      go_wp2_with (go_at_call 11; refine HL.out.mono ?_; rintro e w1 ⟨rfl, rfl⟩; refine Hid.out ?_)
      refine Lib.hid ?_
      go_wp2_with (go_at_call 13; (with_reducible refine (mag_m ha (by omega)).mono ?_); rintro e w11 ⟨vx, rfl, mx, k1⟩; refine Hid.out ?_)
      refine Lib.hid ?_
      clear ha
      replace hb := hb.kp k1
      replace K := K.tr k1
      go_wp2_with (go_at_call 13; (with_reducible refine (mag_m hb (by omega)).mono ?_); rintro e w12 ⟨vy, rfl, my, k2⟩; refine Hid.out ?_)
      refine Lib.hid ?_
      clear hb
      replace mx := mx.kp k2
      replace K := K.tr k2
      go_wp2_with (go_at_call 23; (with_reducible refine (sub_less _ _ _ _ _ mx my hc).mono ?_); rintro e w13 ⟨rfl, k3⟩; refine Hid.out ?_)
      refine Lib.hid ?_
      replace mx := mx.kp k3
      replace my := my.kp k3
      replace K := K.tr k3
      go_wp2_with (go_at_call 24; (with_reducible refine (rsub_less _ _ _ _ _ mx my hc).mono ?_); rintro e w14 ⟨rfl, k4⟩; refine Hid.out ?_)
      refine Lib.hid ?_
      replace mx := mx.kp k4
      replace my := my.kp k4
      replace K := K.tr k4
      go_wp2_with (go_at_call 25; (with_reducible refine (add_m mx my SX SY (by omega) (by omega)).mono ?_); rintro e w15 ⟨vs1, rfl, ms1, k5⟩; refine Hid.out ?_)
      refine Lib.hid ?_
      replace mx := mx.kp k5
      replace my := my.kp k5
      replace K := K.tr k5
      go_wp2_with (go_at_call 26; (with_reducible refine (radd_any mx my SX SY (by omega) (by omega)).mono ?_); rintro e w16 ⟨vs2, rfl, ms2, k6⟩; refine Hid.out ?_)
      refine Lib.hid ?_
      replace mx := mx.kp k6
      replace my := my.kp k6
      replace ms1 := ms1.kp k6
      replace K := K.tr k6
      go_wp2_with (go_at_call 20; (with_reducible refine (same_m ms1 ms2 (rfl)).mono ?_); rintro e w17 ⟨rfl, k7⟩; refine Hid.out ?_)
      refine Lib.hid ?_
      clear ms1
      clear ms2
      replace mx := mx.kp k7
      replace my := my.kp k7
      replace K := K.tr k7
      go_wp2_with (go_at_call 27; (with_reducible refine (mul_m mx my SX SY (by omega) (by omega)).mono ?_); rintro e w18 ⟨vp1, rfl, mp1, k8⟩; refine Hid.out ?_)
      refine Lib.hid ?_
      replace mx := mx.kp k8
      replace my := my.kp k8
      replace K := K.tr k8
      go_wp2_with (go_at_call 28; (with_reducible refine (rmul_any mx my SX SY (by omega) (by omega)).mono ?_); rintro e w19 ⟨vp2, rfl, mp2, k9⟩; refine Hid.out ?_)
      refine Lib.hid ?_
      replace mx := mx.kp k9
      replace my := my.kp k9
      replace mp1 := mp1.kp k9
      replace K := K.tr k9
      go_wp2_with (go_at_call 20; (with_reducible refine (same_m mp1 mp2 (rfl)).mono ?_); rintro e w20 ⟨rfl, k10⟩; refine Hid.out ?_)
      refine Lib.hid ?_
      clear mp1
      clear mp2
      replace mx := mx.kp k10
      replace my := my.kp k10
      replace K := K.tr k10
      go_wp2_with (go_at_call 20; (with_reducible refine (same_m m_nil m_nil rfl).mono ?_); rintro e w21 ⟨rfl, k11⟩; refine Hid.out ?_)
      refine Lib.hid ?_
      replace mx := mx.kp k11
      replace my := my.kp k11
      replace K := K.tr k11
      have HAW2 := Lib.hid (awake_any _ (tabKp HT K))
      go_wp2_with (go_at_call 12; (with_reducible refine HAW2.out.mono ?_); rintro e w1 ⟨rfl, K1⟩)
      go_ret
      exact ⟨rfl, K.tr K1⟩
    · have hc : val ys ≤ val xs := by omega
      go_enter Tryd.func4, Tryd.ntmps4
      go_wp2_with (go_at_call 11; refine HL.out.mono ?_; rintro e w1 ⟨rfl, rfl⟩; refine Hid.out ?_)
      refine Lib.hid ?_
      go_wp2_with (go_at_call 13; (with_reducible refine (mag_m ha (by omega)).mono ?_); rintro e w11 ⟨vx, rfl, mx, k1⟩; refine Hid.out ?_)
      refine Lib.hid ?_
      clear ha
      replace hb := hb.kp k1
      replace K := K.tr k1
      go_wp2_with (go_at_call 13; (with_reducible refine (mag_m hb (by omega)).mono ?_); rintro e w12 ⟨vy, rfl, my, k2⟩; refine Hid.out ?_)
      refine Lib.hid ?_
      clear hb
      replace mx := mx.kp k2
      replace K := K.tr k2
      go_wp2_with (go_at_call 23; (with_reducible refine (sub_any _ _ _ _ _ mx my (Nat.le_trans SX (by omega)) hc).mono ?_); rintro e w13 ⟨vp, rfl, mp, k3⟩; refine Hid.out ?_)
      refine Lib.hid ?_
      replace mx := mx.kp k3
      replace my := my.kp k3
      replace K := K.tr k3
      go_wp2_with (go_at_call 24; (with_reducible refine (rsub_any _ _ _ _ _ mx my (Nat.le_trans SX (by omega)) hc).mono ?_); rintro e w14 ⟨vq, rfl, mq, k4⟩; refine Hid.out ?_)
      refine Lib.hid ?_
      replace mx := mx.kp k4
      replace my := my.kp k4
      replace mp := mp.kp k4
      replace K := K.tr k4
      go_wp2_with (go_at_call 25; (with_reducible refine (add_m mx my SX SY (by omega) (by omega)).mono ?_); rintro e w15 ⟨vs1, rfl, ms1, k5⟩; refine Hid.out ?_)
      refine Lib.hid ?_
      replace mx := mx.kp k5
      replace my := my.kp k5
      replace mp := mp.kp k5
      replace mq := mq.kp k5
      replace K := K.tr k5
      go_wp2_with (go_at_call 26; (with_reducible refine (radd_any mx my SX SY (by omega) (by omega)).mono ?_); rintro e w16 ⟨vs2, rfl, ms2, k6⟩; refine Hid.out ?_)
      refine Lib.hid ?_
      replace mx := mx.kp k6
      replace my := my.kp k6
      replace mp := mp.kp k6
      replace mq := mq.kp k6
      replace ms1 := ms1.kp k6
      replace K := K.tr k6
      go_wp2_with (go_at_call 20; (with_reducible refine (same_m ms1 ms2 (rfl)).mono ?_); rintro e w17 ⟨rfl, k7⟩; refine Hid.out ?_)
      refine Lib.hid ?_
      clear ms1
      clear ms2
      replace mx := mx.kp k7
      replace my := my.kp k7
      replace mp := mp.kp k7
      replace mq := mq.kp k7
      replace K := K.tr k7
      go_wp2_with (go_at_call 27; (with_reducible refine (mul_m mx my SX SY (by omega) (by omega)).mono ?_); rintro e w18 ⟨vp1, rfl, mp1, k8⟩; refine Hid.out ?_)
      refine Lib.hid ?_
      replace mx := mx.kp k8
      replace my := my.kp k8
      replace mp := mp.kp k8
      replace mq := mq.kp k8
      replace K := K.tr k8
      go_wp2_with (go_at_call 28; (with_reducible refine (rmul_any mx my SX SY (by omega) (by omega)).mono ?_); rintro e w19 ⟨vp2, rfl, mp2, k9⟩; refine Hid.out ?_)
      refine Lib.hid ?_
      replace mx := mx.kp k9
      replace my := my.kp k9
      replace mp := mp.kp k9
      replace mq := mq.kp k9
      replace mp1 := mp1.kp k9
      replace K := K.tr k9
      go_wp2_with (go_at_call 20; (with_reducible refine (same_m mp1 mp2 (rfl)).mono ?_); rintro e w20 ⟨rfl, k10⟩; refine Hid.out ?_)
      refine Lib.hid ?_
      clear mp1
      clear mp2
      replace mx := mx.kp k10
      replace my := my.kp k10
      replace mp := mp.kp k10
      replace mq := mq.kp k10
      replace K := K.tr k10
      go_wp2_with (go_at_call 20; (with_reducible refine (same_m mp mq (rfl)).mono ?_); rintro e w21 ⟨rfl, k11⟩; refine Hid.out ?_)
      refine Lib.hid ?_
      clear mp
      clear mq
      replace mx := mx.kp k11
      replace my := my.kp k11
      replace K := K.tr k11
      have HAW2 := Lib.hid (awake_any _ (tabKp HT K))
      go_wp2_with (go_at_call 12; (with_reducible refine HAW2.out.mono ?_); rintro e w1 ⟨rfl, K1⟩)
      go_ret
      exact ⟨rfl, K.tr K1⟩
  · have HL := Lib.hid (light_no ha hb hl)
    clear htab ha hb hl
    go_enter Tryd.func4, Tryd.ntmps4
    go_wp2_with (first
      | (go_at_call 11; refine HL.out.mono ?_; rintro e w1 ⟨rfl, rfl⟩)
      | (go_at_call 12; refine HAW.out.mono ?_; rintro e w1 ⟨rfl, K1⟩))
    go_ret
    exact ⟨rfl, K1⟩
end Go.Proofs.YtijadodleiiomaaDoor
