/-
  brepkernellaw01.NaturalRing, by the contracts.
-/
import Derived.Test.YtijadodleiiomaaDoorLaw
namespace Go.Proofs.YtijadodleiiomaaDoor
open Go.RowKit

set_option maxHeartbeats 4000000 in
theorem ring_walk (a b c : Value) (xs ys zs : List Nat) (w : World) (ha : Rd w a xs) (hb : Rd w b ys) (hc : Rd w c zs)
    (htab : Lib.TabIs Tryd.prog w "internal/strconv.uint64pow10" .u64 Lib.pow10Tab) :
    Calls Tryd.prog 8 #[a, b, c] w fun e w' => e = .returned (.bool true) ∧ Kp w w' := by
  have HT := Lib.tabBelow_of_tabIs htab
  have HAW := Lib.hid (awake_any w htab)
  by_cases hl : xs.length ≤ 40 ∧ ys.length ≤ 40
  · have HL := Lib.hid (light_yes ha hb hl.1 hl.2)
    by_cases hz : zs.length ≤ 40
    · -- GEN: the lines that follow are written by tools/gen_ring.py
      have SX := Sz.val (by obtain ⟨_, _, _, _, _, h, _⟩ := ha; exact h) 40 hl.1
      have SY := Sz.val (by obtain ⟨_, _, _, _, _, h, _⟩ := hb; exact h) 40 hl.2
      have SZ := Sz.val (by obtain ⟨_, _, _, _, _, h, _⟩ := hc; exact h) 40 hz
      have K : Kp w w := Below.refl _ _
      obtain ⟨hl1, hl2⟩ := hl
      obtain ⟨co, cc, rfl, c1, c2, c3, c4⟩ := id hc
      unfold maxLen at c2
      have hgt : decide ((40 : Int) < zs.length) = false := decide_eq_false (by omega)
      clear htab c3 c4
      go_enter Tryd.func8, Tryd.ntmps8
      go_wp2_with (go_at_call 11; refine HL.out.mono ?_; rintro e w1 ⟨rfl, rfl⟩; refine Hid.out ?_)
      refine Lib.hid ?_
      go_wp2_with (go_at_call 13; (with_reducible refine (mag_m ha (by omega)).mono ?_); rintro e w11 ⟨vx, rfl, mx, k1⟩; refine Hid.out ?_)
      refine Lib.hid ?_
      clear ha
      replace hb := hb.kp k1
      replace hc := hc.kp k1
      replace K := K.tr k1
      go_wp2_with (go_at_call 13; (with_reducible refine (mag_m hb (by omega)).mono ?_); rintro e w12 ⟨vy, rfl, my, k2⟩; refine Hid.out ?_)
      refine Lib.hid ?_
      clear hb
      replace hc := hc.kp k2
      replace mx := mx.kp k2
      replace K := K.tr k2
      go_wp2_with (go_at_call 13; (with_reducible refine (mag_m hc (by omega)).mono ?_); rintro e w13 ⟨vz, rfl, mz, k3⟩; refine Hid.out ?_)
      refine Lib.hid ?_
      clear hc
      replace mx := mx.kp k3
      replace my := my.kp k3
      replace K := K.tr k3
      go_wp2_with (go_at_call 25; (with_reducible refine (add_m mx my SX SY (by omega) (by omega)).mono ?_); rintro e w14 ⟨vs1, rfl, ms1, k4⟩; refine Hid.out ?_)
      refine Lib.hid ?_
      replace mx := mx.kp k4
      replace my := my.kp k4
      replace mz := mz.kp k4
      replace K := K.tr k4
      go_wp2_with (go_at_call 25; (with_reducible refine (add_m my mx SY SX (by omega) (by omega)).mono ?_); rintro e w15 ⟨vs2, rfl, ms2, k5⟩; refine Hid.out ?_)
      refine Lib.hid ?_
      replace mx := mx.kp k5
      replace my := my.kp k5
      replace mz := mz.kp k5
      replace ms1 := ms1.kp k5
      replace K := K.tr k5
      go_wp2_with (go_at_call 20; (with_reducible refine (same_m ms1 ms2 (Nat.add_comm _ _)).mono ?_); rintro e w16 ⟨rfl, k6⟩; refine Hid.out ?_)
      refine Lib.hid ?_
      clear ms1
      clear ms2
      replace mx := mx.kp k6
      replace my := my.kp k6
      replace mz := mz.kp k6
      replace K := K.tr k6
      go_wp2_with (go_at_call 27; (with_reducible refine (mul_m mx my SX SY (by omega) (by omega)).mono ?_); rintro e w17 ⟨vp1, rfl, mp1, k7⟩; refine Hid.out ?_)
      refine Lib.hid ?_
      replace mx := mx.kp k7
      replace my := my.kp k7
      replace mz := mz.kp k7
      replace K := K.tr k7
      go_wp2_with (go_at_call 27; (with_reducible refine (mul_m my mx SY SX (by omega) (by omega)).mono ?_); rintro e w18 ⟨vp2, rfl, mp2, k8⟩; refine Hid.out ?_)
      refine Lib.hid ?_
      replace mx := mx.kp k8
      replace my := my.kp k8
      replace mz := mz.kp k8
      replace mp1 := mp1.kp k8
      replace K := K.tr k8
      go_wp2_with (go_at_call 20; (with_reducible refine (same_m mp1 mp2 (Nat.mul_comm _ _)).mono ?_); rintro e w19 ⟨rfl, k9⟩; refine Hid.out ?_)
      refine Lib.hid ?_
      clear mp1
      clear mp2
      replace mx := mx.kp k9
      replace my := my.kp k9
      replace mz := mz.kp k9
      replace K := K.tr k9
      go_wp2_with (go_at_call 25; (with_reducible refine (add_m mx my SX SY (by omega) (by omega)).mono ?_); rintro e w20 ⟨vt1, rfl, mt1, k10⟩; refine Hid.out ?_)
      refine Lib.hid ?_
      replace mx := mx.kp k10
      replace my := my.kp k10
      replace mz := mz.kp k10
      replace K := K.tr k10
      go_wp2_with (go_at_call 25; (with_reducible refine (add_m mt1 mz (SX.add SY) SZ (by omega) (by omega)).mono ?_); rintro e w21 ⟨vt2, rfl, mt2, k11⟩; refine Hid.out ?_)
      refine Lib.hid ?_
      clear mt1
      replace mx := mx.kp k11
      replace my := my.kp k11
      replace mz := mz.kp k11
      replace K := K.tr k11
      go_wp2_with (go_at_call 25; (with_reducible refine (add_m my mz SY SZ (by omega) (by omega)).mono ?_); rintro e w22 ⟨vt3, rfl, mt3, k12⟩; refine Hid.out ?_)
      refine Lib.hid ?_
      replace mx := mx.kp k12
      replace my := my.kp k12
      replace mz := mz.kp k12
      replace mt2 := mt2.kp k12
      replace K := K.tr k12
      go_wp2_with (go_at_call 25; (with_reducible refine (add_m mx mt3 SX (SY.add SZ) (by omega) (by omega)).mono ?_); rintro e w23 ⟨vt4, rfl, mt4, k13⟩; refine Hid.out ?_)
      refine Lib.hid ?_
      clear mt3
      replace mx := mx.kp k13
      replace my := my.kp k13
      replace mz := mz.kp k13
      replace mt2 := mt2.kp k13
      replace K := K.tr k13
      go_wp2_with (go_at_call 20; (with_reducible refine (same_m mt2 mt4 (Nat.add_assoc _ _ _)).mono ?_); rintro e w24 ⟨rfl, k14⟩; refine Hid.out ?_)
      refine Lib.hid ?_
      clear mt2
      clear mt4
      replace mx := mx.kp k14
      replace my := my.kp k14
      replace mz := mz.kp k14
      replace K := K.tr k14
      go_wp2_with (go_at_call 27; (with_reducible refine (mul_m mx my SX SY (by omega) (by omega)).mono ?_); rintro e w25 ⟨vq1, rfl, mq1, k15⟩; refine Hid.out ?_)
      refine Lib.hid ?_
      replace mx := mx.kp k15
      replace my := my.kp k15
      replace mz := mz.kp k15
      replace K := K.tr k15
      go_wp2_with (go_at_call 27; (with_reducible refine (mul_m mq1 mz (SX.mul SY) SZ (by omega) (by omega)).mono ?_); rintro e w26 ⟨vq2, rfl, mq2, k16⟩; refine Hid.out ?_)
      refine Lib.hid ?_
      clear mq1
      replace mx := mx.kp k16
      replace my := my.kp k16
      replace mz := mz.kp k16
      replace K := K.tr k16
      go_wp2_with (go_at_call 27; (with_reducible refine (mul_m my mz SY SZ (by omega) (by omega)).mono ?_); rintro e w27 ⟨vq3, rfl, mq3, k17⟩; refine Hid.out ?_)
      refine Lib.hid ?_
      replace mx := mx.kp k17
      replace my := my.kp k17
      replace mz := mz.kp k17
      replace mq2 := mq2.kp k17
      replace K := K.tr k17
      go_wp2_with (go_at_call 27; (with_reducible refine (mul_m mx mq3 SX (SY.mul SZ) (by omega) (by omega)).mono ?_); rintro e w28 ⟨vq4, rfl, mq4, k18⟩; refine Hid.out ?_)
      refine Lib.hid ?_
      clear mq3
      replace mx := mx.kp k18
      replace my := my.kp k18
      replace mz := mz.kp k18
      replace mq2 := mq2.kp k18
      replace K := K.tr k18
      go_wp2_with (go_at_call 20; (with_reducible refine (same_m mq2 mq4 (Nat.mul_assoc _ _ _)).mono ?_); rintro e w29 ⟨rfl, k19⟩; refine Hid.out ?_)
      refine Lib.hid ?_
      clear mq2
      clear mq4
      replace mx := mx.kp k19
      replace my := my.kp k19
      replace mz := mz.kp k19
      replace K := K.tr k19
      go_wp2_with (go_at_call 25; (with_reducible refine (add_m my mz SY SZ (by omega) (by omega)).mono ?_); rintro e w30 ⟨vd1, rfl, md1, k20⟩; refine Hid.out ?_)
      refine Lib.hid ?_
      replace mx := mx.kp k20
      replace my := my.kp k20
      replace mz := mz.kp k20
      replace K := K.tr k20
      go_wp2_with (go_at_call 27; (with_reducible refine (mul_m mx md1 SX (SY.add SZ) (by omega) (by omega)).mono ?_); rintro e w31 ⟨vd2, rfl, md2, k21⟩; refine Hid.out ?_)
      refine Lib.hid ?_
      clear md1
      replace mx := mx.kp k21
      replace my := my.kp k21
      replace mz := mz.kp k21
      replace K := K.tr k21
      go_wp2_with (go_at_call 27; (with_reducible refine (mul_m mx my SX SY (by omega) (by omega)).mono ?_); rintro e w32 ⟨vd3, rfl, md3, k22⟩; refine Hid.out ?_)
      refine Lib.hid ?_
      replace mx := mx.kp k22
      replace my := my.kp k22
      replace mz := mz.kp k22
      replace md2 := md2.kp k22
      replace K := K.tr k22
      go_wp2_with (go_at_call 27; (with_reducible refine (mul_m mx mz SX SZ (by omega) (by omega)).mono ?_); rintro e w33 ⟨vd4, rfl, md4, k23⟩; refine Hid.out ?_)
      refine Lib.hid ?_
      replace mx := mx.kp k23
      replace my := my.kp k23
      replace mz := mz.kp k23
      replace md2 := md2.kp k23
      replace md3 := md3.kp k23
      replace K := K.tr k23
      go_wp2_with (go_at_call 25; (with_reducible refine (add_m md3 md4 (SX.mul SY) (SX.mul SZ) (by omega) (by omega)).mono ?_); rintro e w34 ⟨vd5, rfl, md5, k24⟩; refine Hid.out ?_)
      refine Lib.hid ?_
      clear md3
      clear md4
      replace mx := mx.kp k24
      replace my := my.kp k24
      replace mz := mz.kp k24
      replace md2 := md2.kp k24
      replace K := K.tr k24
      go_wp2_with (go_at_call 20; (with_reducible refine (same_m md2 md5 (Nat.mul_add _ _ _)).mono ?_); rintro e w35 ⟨rfl, k25⟩; refine Hid.out ?_)
      refine Lib.hid ?_
      clear md2
      clear md5
      replace mx := mx.kp k25
      replace my := my.kp k25
      replace mz := mz.kp k25
      replace K := K.tr k25
      have HAW2 := Lib.hid (awake_any _ (tabKp HT K))
      go_wp2_with (go_at_call 12; (with_reducible refine HAW2.out.mono ?_); rintro e w1 ⟨rfl, K1⟩)
      go_ret
      exact ⟨rfl, K.tr K1⟩
    · obtain ⟨co, cc, rfl, c1, c2, c3, c4⟩ := hc
      have hgt : decide ((40 : Int) < zs.length) = true := decide_eq_true (by omega)
      unfold maxLen at c2
      clear htab c3 c4 ha hb hl
      go_enter Tryd.func8, Tryd.ntmps8
      go_wp2_with (first
        | (go_at_call 11; refine HL.out.mono ?_; rintro e w1 ⟨rfl, rfl⟩)
        | (go_at_call 12; refine HAW.out.mono ?_; rintro e w1 ⟨rfl, K1⟩))
      go_ret
      exact ⟨rfl, K1⟩
  · have HL := Lib.hid (light_no ha hb hl)
    clear htab ha hb hl hc
    go_enter Tryd.func8, Tryd.ntmps8
    go_wp2_with (first
      | (go_at_call 11; refine HL.out.mono ?_; rintro e w1 ⟨rfl, rfl⟩)
      | (go_at_call 12; refine HAW.out.mono ?_; rintro e w1 ⟨rfl, K1⟩))
    go_ret
    exact ⟨rfl, K1⟩
end Go.Proofs.YtijadodleiiomaaDoor
