/-
  brepkernellaw01.NaturalDivides, by the contracts.
-/
import Derived.Test.YtijadodleiiomaaDoorQuotL
import Derived.Test.YtijadodleiiomaaDoorRGcd
namespace Go.Proofs.YtijadodleiiomaaDoor
open Go.RowKit

theorem nil_m {w : World} : M w (.slice none 0 0) 0 := by first | exact m_nil | exact m_nil _

theorem div_prod {w : World} {a b : Value} {n z : Nat} (ha : M w a (n * z)) (hb : M w b n) {k : Nat} (hs : Sz k (n * z)) (hk : k ≤ 549755813888) (hn : n ≠ 0) (hT : Tz w) :
    Calls Tryd.prog 29 #[a, b] w fun e w' => ∃ q o c, e = .returned (.tuple #[q, .slice o 0 c, .int .i64 0]) ∧ M w' q z ∧ Kp w w' := by
  refine (div_m ha hb hs hk hn hT).mono ?_
  rintro e w' ⟨q, r, he, hq, hr, k⟩
  rw [Nat.mul_mod_right] at hr
  rw [Nat.mul_div_cancel_left _ (Nat.pos_of_ne_zero hn)] at hq
  obtain ⟨o, c, rfl⟩ := m_zero hr
  exact ⟨q, o, c, he, hq, k⟩

set_option maxRecDepth 20000 in
set_option maxHeartbeats 4000000 in
theorem divides_walk (a b c : Value) (xs ys zs : List Nat) (w : World) (ha : Rd w a xs) (hb : Rd w b ys) (hc : Rd w c zs)
    (htab : Lib.TabIs Tryd.prog w "internal/strconv.uint64pow10" .u64 Lib.pow10Tab) (hZ : Tz w) :
    Calls Tryd.prog 5 #[a, b, c] w fun e w' => e = .returned (.bool true) ∧ Kp w w' := by
  have HT := Lib.tabBelow_of_tabIs htab
  have HAW := Lib.hid (awake_any w htab)
  have HZ := Lib.hid hZ
  clear hZ
  by_cases hl : xs.length ≤ 40 ∧ ys.length ≤ 40
  · have HL := Lib.hid (light_yes ha hb hl.1 hl.2)
    by_cases hz : zs.length ≤ 20
    · have SX := Sz.val (by obtain ⟨_, _, _, _, _, h, _⟩ := ha; exact h) 40 hl.1
      have SY := Sz.val (by obtain ⟨_, _, _, _, _, h, _⟩ := hb; exact h) 40 hl.2
      have SZ := Sz.val (by obtain ⟨_, _, _, _, _, h, _⟩ := hc; exact h) 20 hz
      have K : Kp w w := Below.refl _ _
      obtain ⟨hl1, hl2⟩ := hl
      obtain ⟨co, cc, rfl, c1, c2, c3, c4⟩ := id hc
      unfold maxLen at c2
      have hgt : decide ((20 : Int) < zs.length) = false := decide_eq_false (by omega)
      clear htab c3 c4
      obtain ⟨ly, hly⟩ : ∃ l, l = (toL (val ys)).length := ⟨_, rfl⟩
      have HLY := Lib.hid hly
      have hly2 : ly ≤ 40 := by rw [hly]; exact SY
      by_cases h0 : val ys = 0
      · have hl0 : ly = 0 := by rw [hly, h0, toL_zero]; rfl
        subst hl0
        have HY0 := Lib.hid h0
        clear h0 hly
        go_enter Tryd.func5, Tryd.ntmps5
        go_wp2_with (go_at_call 11; refine HL.out.mono ?_; rintro e w1 ⟨rfl, rfl⟩; refine Hid.out ?_)
        refine Lib.hid ?_
        go_wp2_with (go_at_call 13; (with_reducible refine (mag_m ha (by omega)).mono ?_); rintro e w11 ⟨vx, rfl, mx, k1⟩; refine Hid.out ?_)
        refine Lib.hid ?_
        clear ha
        replace hb := hb.kp k1
        replace hc := hc.kp k1
        replace K := K.tr k1
        go_wp2_with (go_at_call 13; (with_reducible refine (mag_m hb (by omega)).mono ?_); rintro e w12 ⟨vy, rfl, my, k2⟩; refine Hid.out ?_)
        refine Lib.hid ?_
        clear hb
        replace hc := hc.kp k2
        replace mx := mx.kp k2
        replace K := K.tr k2
        go_wp2_with (go_at_call 13; (with_reducible refine (mag_m hc (by omega)).mono ?_); rintro e w13 ⟨vz, rfl, mz, k3⟩; refine Hid.out ?_)
        refine Lib.hid ?_
        clear hc
        replace mx := mx.kp k3
        replace my := my.kp k3
        replace K := K.tr k3
        go_wp2_with (go_at_call 28; (with_reducible refine (rmul_any my mz SY SZ (by omega) (by omega)).mono ?_); rintro e w14 ⟨vw, rfl, mw, k4⟩; refine Hid.out ?_)
        refine Lib.hid ?_
        replace mx := mx.kp k4
        replace my := my.kp k4
        replace mz := mz.kp k4
        replace K := K.tr k4
        obtain ⟨yo, yc, rfl⟩ := mag_slice2 my HLY.out
        go_wp2_with (go_at_call 29; (with_reducible refine (div_none mx my HY0.out).mono ?_); rintro e w15 ⟨rfl, k5⟩; refine Hid.out ?_)
        refine Lib.hid ?_
        replace mx := mx.kp k5
        replace my := my.kp k5
        replace mz := mz.kp k5
        replace mw := mw.kp k5
        replace K := K.tr k5
        go_wp2_with (go_at_call 30; (with_reducible refine (rdiv_zero mx my HY0.out).mono ?_); rintro e w16 ⟨rfl, k6⟩; refine Hid.out ?_)
        refine Lib.hid ?_
        replace mx := mx.kp k6
        replace my := my.kp k6
        replace mz := mz.kp k6
        replace mw := mw.kp k6
        replace K := K.tr k6
        go_wp2_with (go_at_call 29; (with_reducible refine (div_none mw my HY0.out).mono ?_); rintro e w17 ⟨rfl, k7⟩; refine Hid.out ?_)
        refine Lib.hid ?_
        replace mx := mx.kp k7
        replace my := my.kp k7
        replace mz := mz.kp k7
        replace mw := mw.kp k7
        replace K := K.tr k7
        go_wp2_with (go_at_call 20; (with_reducible refine (same_m nil_m nil_m rfl).mono ?_); rintro e w18 ⟨rfl, k8⟩; refine Hid.out ?_)
        refine Lib.hid ?_
        replace mx := mx.kp k8
        replace my := my.kp k8
        replace mz := mz.kp k8
        replace mw := mw.kp k8
        replace K := K.tr k8
        go_wp2_with (go_at_call 20; (with_reducible refine (same_m nil_m nil_m rfl).mono ?_); rintro e w19 ⟨rfl, k9⟩; refine Hid.out ?_)
        refine Lib.hid ?_
        clear mz
        replace mx := mx.kp k9
        replace my := my.kp k9
        replace mw := mw.kp k9
        replace K := K.tr k9
        go_wp2_with (go_at_call 31; (with_reducible refine (gcd_any mx my (Nat.le_trans SX (by omega)) (Nat.le_trans SY (by omega)) (HZ.out.kp K)).mono ?_); rintro e w20 ⟨vg, rfl, mg, k10⟩; refine Hid.out ?_)
        refine Lib.hid ?_
        replace mx := mx.kp k10
        replace my := my.kp k10
        replace mw := mw.kp k10
        replace K := K.tr k10
        go_wp2_with (go_at_call 32; (with_reducible refine (rgcd_any mx my (Nat.le_trans SX (by omega)) (Nat.le_trans SY (by omega))).mono ?_); rintro e w21 ⟨vh, rfl, mh, k11⟩; refine Hid.out ?_)
        refine Lib.hid ?_
        replace mx := mx.kp k11
        replace my := my.kp k11
        replace mw := mw.kp k11
        replace mg := mg.kp k11
        replace K := K.tr k11
        go_wp2_with (go_at_call 20; (with_reducible refine (same_m mg mh (rfl)).mono ?_); rintro e w22 ⟨rfl, k12⟩; refine Hid.out ?_)
        refine Lib.hid ?_
        clear mg
        clear mh
        replace mx := mx.kp k12
        replace my := my.kp k12
        replace mw := mw.kp k12
        replace K := K.tr k12
        go_wp2_with (go_at_call 31; (with_reducible refine (gcd_any mw my (Nat.le_trans (SY.mul SZ) (by omega)) (Nat.le_trans SY (by omega)) (HZ.out.kp K)).mono ?_); rintro e w23 ⟨vi, rfl, mi, k13⟩; refine Hid.out ?_)
        refine Lib.hid ?_
        replace mx := mx.kp k13
        replace my := my.kp k13
        replace mw := mw.kp k13
        replace K := K.tr k13
        go_wp2_with (go_at_call 32; (with_reducible refine (rgcd_any mw my (Nat.le_trans (SY.mul SZ) (by omega)) (Nat.le_trans SY (by omega))).mono ?_); rintro e w24 ⟨vj, rfl, mj, k14⟩; refine Hid.out ?_)
        refine Lib.hid ?_
        replace mx := mx.kp k14
        replace my := my.kp k14
        replace mw := mw.kp k14
        replace mi := mi.kp k14
        replace K := K.tr k14
        go_wp2_with (go_at_call 20; (with_reducible refine (same_m mi mj (rfl)).mono ?_); rintro e w25 ⟨rfl, k15⟩; refine Hid.out ?_)
        refine Lib.hid ?_
        clear mi
        clear mj
        replace mx := mx.kp k15
        replace my := my.kp k15
        replace mw := mw.kp k15
        replace K := K.tr k15
        have HAW2 := Lib.hid (awake_any _ (tabKp HT K))
        go_wp2_with (go_at_call 12; (with_reducible refine HAW2.out.mono ?_); rintro e w1 ⟨rfl, K1⟩)
        go_ret
        exact ⟨rfl, K.tr K1⟩
      · have hl0 : 0 < ly := by
          rcases Nat.eq_zero_or_pos ly with h | h
          · exact absurd ((toL_nil_iff _).1 (List.length_eq_zero_iff.1 (hly ▸ h))) h0
          · exact h
        have hl0i : ((ly : Int) == 0) = false := beq_eq_false_iff_ne.2 (by omega)
        have HY0 := Lib.hid h0
        clear h0 hly
        go_enter Tryd.func5, Tryd.ntmps5
        go_wp2_with (go_at_call 11; refine HL.out.mono ?_; rintro e w1 ⟨rfl, rfl⟩; refine Hid.out ?_)
        refine Lib.hid ?_
        go_wp2_with (go_at_call 13; (with_reducible refine (mag_m ha (by omega)).mono ?_); rintro e w11 ⟨vx, rfl, mx, k1⟩; refine Hid.out ?_)
        refine Lib.hid ?_
        clear ha
        replace hb := hb.kp k1
        replace hc := hc.kp k1
        replace K := K.tr k1
        go_wp2_with (go_at_call 13; (with_reducible refine (mag_m hb (by omega)).mono ?_); rintro e w12 ⟨vy, rfl, my, k2⟩; refine Hid.out ?_)
        refine Lib.hid ?_
        clear hb
        replace hc := hc.kp k2
        replace mx := mx.kp k2
        replace K := K.tr k2
        go_wp2_with (go_at_call 13; (with_reducible refine (mag_m hc (by omega)).mono ?_); rintro e w13 ⟨vz, rfl, mz, k3⟩; refine Hid.out ?_)
        refine Lib.hid ?_
        clear hc
        replace mx := mx.kp k3
        replace my := my.kp k3
        replace K := K.tr k3
        go_wp2_with (go_at_call 28; (with_reducible refine (rmul_any my mz SY SZ (by omega) (by omega)).mono ?_); rintro e w14 ⟨vw, rfl, mw, k4⟩; refine Hid.out ?_)
        refine Lib.hid ?_
        replace mx := mx.kp k4
        replace my := my.kp k4
        replace mz := mz.kp k4
        replace K := K.tr k4
        obtain ⟨yo, yc, rfl⟩ := mag_slice2 my HLY.out
        go_wp2_with (go_at_call 29; (with_reducible refine (div_m mx my SX (by omega) HY0.out (HZ.out.kp K)).mono ?_); rintro e w15 ⟨vq, vr, rfl, mq, mr, k5⟩; refine Hid.out ?_)
        refine Lib.hid ?_
        replace mx := mx.kp k5
        replace my := my.kp k5
        replace mz := mz.kp k5
        replace mw := mw.kp k5
        replace K := K.tr k5
        go_wp2_with (go_at_call 30; (with_reducible refine (rdiv_any mx my (Nat.le_trans SX (by omega)) HY0.out).mono ?_); rintro e w16 ⟨vp, vs, rfl, mp, ms, k6⟩; refine Hid.out ?_)
        refine Lib.hid ?_
        replace mx := mx.kp k6
        replace my := my.kp k6
        replace mz := mz.kp k6
        replace mw := mw.kp k6
        replace mq := mq.kp k6
        replace mr := mr.kp k6
        replace K := K.tr k6
        go_wp2_with (go_at_call 29; (with_reducible refine (div_prod mw my (SY.mul SZ) (by omega) HY0.out (HZ.out.kp K)).mono ?_); rintro e w17 ⟨vu, vo, vc, rfl, mu, k7⟩; refine Hid.out ?_)
        refine Lib.hid ?_
        replace mx := mx.kp k7
        replace my := my.kp k7
        replace mz := mz.kp k7
        replace mw := mw.kp k7
        replace mq := mq.kp k7
        replace mr := mr.kp k7
        replace mp := mp.kp k7
        replace ms := ms.kp k7
        replace K := K.tr k7
        go_wp2_with (go_at_call 20; (with_reducible refine (same_m mq mp (rfl)).mono ?_); rintro e w18 ⟨rfl, k8⟩; refine Hid.out ?_)
        refine Lib.hid ?_
        clear mq
        clear mp
        replace mx := mx.kp k8
        replace my := my.kp k8
        replace mz := mz.kp k8
        replace mw := mw.kp k8
        replace mr := mr.kp k8
        replace ms := ms.kp k8
        replace mu := mu.kp k8
        replace K := K.tr k8
        go_wp2_with (go_at_call 20; (with_reducible refine (same_m mr ms (rfl)).mono ?_); rintro e w19 ⟨rfl, k9⟩; refine Hid.out ?_)
        refine Lib.hid ?_
        clear mr
        clear ms
        replace mx := mx.kp k9
        replace my := my.kp k9
        replace mz := mz.kp k9
        replace mw := mw.kp k9
        replace mu := mu.kp k9
        replace K := K.tr k9
        go_wp2_with (go_at_call 20; (with_reducible refine (same_m mu mz (rfl)).mono ?_); rintro e w20 ⟨rfl, k10⟩; refine Hid.out ?_)
        refine Lib.hid ?_
        clear mu
        clear mz
        replace mx := mx.kp k10
        replace my := my.kp k10
        replace mw := mw.kp k10
        replace K := K.tr k10
        go_wp2_with (go_at_call 31; (with_reducible refine (gcd_any mx my (Nat.le_trans SX (by omega)) (Nat.le_trans SY (by omega)) (HZ.out.kp K)).mono ?_); rintro e w21 ⟨vg, rfl, mg, k11⟩; refine Hid.out ?_)
        refine Lib.hid ?_
        replace mx := mx.kp k11
        replace my := my.kp k11
        replace mw := mw.kp k11
        replace K := K.tr k11
        go_wp2_with (go_at_call 32; (with_reducible refine (rgcd_any mx my (Nat.le_trans SX (by omega)) (Nat.le_trans SY (by omega))).mono ?_); rintro e w22 ⟨vh, rfl, mh, k12⟩; refine Hid.out ?_)
        refine Lib.hid ?_
        replace mx := mx.kp k12
        replace my := my.kp k12
        replace mw := mw.kp k12
        replace mg := mg.kp k12
        replace K := K.tr k12
        go_wp2_with (go_at_call 20; (with_reducible refine (same_m mg mh (rfl)).mono ?_); rintro e w23 ⟨rfl, k13⟩; refine Hid.out ?_)
        refine Lib.hid ?_
        clear mg
        clear mh
        replace mx := mx.kp k13
        replace my := my.kp k13
        replace mw := mw.kp k13
        replace K := K.tr k13
        go_wp2_with (go_at_call 31; (with_reducible refine (gcd_any mw my (Nat.le_trans (SY.mul SZ) (by omega)) (Nat.le_trans SY (by omega)) (HZ.out.kp K)).mono ?_); rintro e w24 ⟨vi, rfl, mi, k14⟩; refine Hid.out ?_)
        refine Lib.hid ?_
        replace mx := mx.kp k14
        replace my := my.kp k14
        replace mw := mw.kp k14
        replace K := K.tr k14
        go_wp2_with (go_at_call 32; (with_reducible refine (rgcd_any mw my (Nat.le_trans (SY.mul SZ) (by omega)) (Nat.le_trans SY (by omega))).mono ?_); rintro e w25 ⟨vj, rfl, mj, k15⟩; refine Hid.out ?_)
        refine Lib.hid ?_
        replace mx := mx.kp k15
        replace my := my.kp k15
        replace mw := mw.kp k15
        replace mi := mi.kp k15
        replace K := K.tr k15
        go_wp2_with (go_at_call 20; (with_reducible refine (same_m mi mj (rfl)).mono ?_); rintro e w26 ⟨rfl, k16⟩; refine Hid.out ?_)
        refine Lib.hid ?_
        clear mi
        clear mj
        replace mx := mx.kp k16
        replace my := my.kp k16
        replace mw := mw.kp k16
        replace K := K.tr k16
        have HAW2 := Lib.hid (awake_any _ (tabKp HT K))
        go_wp2_with (go_at_call 12; (with_reducible refine HAW2.out.mono ?_); rintro e w1 ⟨rfl, K1⟩)
        go_ret
        exact ⟨rfl, K.tr K1⟩
    · obtain ⟨co, cc, rfl, c1, c2, c3, c4⟩ := hc
      have hgt : decide ((20 : Int) < zs.length) = true := decide_eq_true (by omega)
      unfold maxLen at c2
      clear htab c3 c4 ha hb hl
      go_enter Tryd.func5, Tryd.ntmps5
      go_wp2_with (first
        | (go_at_call 11; refine HL.out.mono ?_; rintro e w1 ⟨rfl, rfl⟩)
        | (go_at_call 12; refine HAW.out.mono ?_; rintro e w1 ⟨rfl, K1⟩))
      go_ret
      exact ⟨rfl, K1⟩
  · have HL := Lib.hid (light_no ha hb hl)
    clear htab ha hb hl hc
    go_enter Tryd.func5, Tryd.ntmps5
    go_wp2_with (first
      | (go_at_call 11; refine HL.out.mono ?_; rintro e w1 ⟨rfl, rfl⟩)
      | (go_at_call 12; refine HAW.out.mono ?_; rintro e w1 ⟨rfl, K1⟩))
    go_ret
    exact ⟨rfl, K1⟩
end Go.Proofs.YtijadodleiiomaaDoor
