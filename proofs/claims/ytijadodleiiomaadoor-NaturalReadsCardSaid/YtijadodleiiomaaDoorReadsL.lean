/-
  brepkernellaw01.NaturalReads, by the contracts.
-/
import Derived.Test.YtijadodleiiomaaDoorReadsW
namespace Go.Proofs.YtijadodleiiomaaDoor
open Go.RowKit

theorem nvalid_m {w : World} {v : Value} {n : Nat} (h : M w v n) :
    Calls Tryd.prog 14 #[v] w fun e w' => e = .returned (.bool true) ∧ w = w' := by
  have := nvalid_any v _ w h
  rw [validB_toL] at this
  exact this

theorem cmp_m {w : World} {a b : Value} {m n : Nat} (ha : M w a m) (hb : M w b n) :
    Calls Tryd.prog 16 #[a, b] w fun e w' => e = .returned (.int .i64 (cmpv m n)) ∧ Kp w w' := by
  have := cmp_any a b _ _ w ha hb
  rw [val_toL, val_toL] at this
  exact this

theorem of_m {n : Nat} (hn : n < 18446744073709551616) {w : World} :
    Calls Tryd.prog 21 #[.int .u64 n] w fun e w' => ∃ v', e = .returned v' ∧ M w' v' n ∧ Kp w w' := of_any n w hn

set_option maxHeartbeats 4000000 in
theorem reads_walk (a b : Value) (xs ys : List Nat) (n : Nat) (hn : n < 18446744073709551616) (w : World) (ha : Rd w a xs) (hb : Rd w b ys)
    (htab : Lib.TabIs Tryd.prog w "internal/strconv.uint64pow10" .u64 Lib.pow10Tab) :
    Calls Tryd.prog 3 #[a, b, .int .u64 (n : Nat)] w fun e w' => e = .returned (.bool true) ∧ Kp w w' := by
  have HT := Lib.tabBelow_of_tabIs htab
  have HAW := Lib.hid (awake_any w htab)
  by_cases hl : xs.length ≤ 40 ∧ ys.length ≤ 40
  · have HL := Lib.hid (light_yes ha hb hl.1 hl.2)
    have SX := Sz.val (by obtain ⟨_, _, _, _, _, h, _⟩ := ha; exact h) 40 hl.1
    have SY := Sz.val (by obtain ⟨_, _, _, _, _, h, _⟩ := hb; exact h) 40 hl.2
    have K : Kp w w := Below.refl _ _
    obtain ⟨hl1, hl2⟩ := hl
    clear htab
    go_enter Tryd.func3, Tryd.ntmps3
    go_wp2_with (go_at_call 11; refine HL.out.mono ?_; rintro e w1 ⟨rfl, rfl⟩; refine Hid.out ?_)
    refine Lib.hid ?_
    go_wp2_with (go_at_call 13; (with_reducible refine (mag_m ha (by omega)).mono ?_); rintro e w11 ⟨vx, rfl, mx, k1⟩; refine Hid.out ?_)
    refine Lib.hid ?_
    replace ha := ha.kp k1
    replace hb := hb.kp k1
    replace K := K.tr k1
    go_wp2_with (go_at_call 13; (with_reducible refine (mag_m hb (by omega)).mono ?_); rintro e w12 ⟨vy, rfl, my, k2⟩; refine Hid.out ?_)
    refine Lib.hid ?_
    clear hb
    replace ha := ha.kp k2
    replace mx := mx.kp k2
    replace K := K.tr k2
    go_wp2_with (go_at_call 14; (with_reducible refine (nvalid_any _ _ _ ha).mono ?_); rintro e w13 ⟨rfl, rfl⟩; refine Hid.out ?_)
    refine Lib.hid ?_
    go_wp2_with (go_at_call 15; (with_reducible refine (rvalid_any _ _ _ ha).mono ?_); rintro e w14 ⟨rfl, rfl⟩; refine Hid.out ?_)
    refine Lib.hid ?_
    clear ha
    go_wp2_with (go_at_call 14; (with_reducible refine (nvalid_m mx).mono ?_); rintro e w15 ⟨rfl, rfl⟩; refine Hid.out ?_)
    refine Lib.hid ?_
    go_wp2_with (go_at_call 16; (with_reducible refine (cmp_m mx my).mono ?_); rintro e w16 ⟨rfl, k6⟩; refine Hid.out ?_)
    refine Lib.hid ?_
    replace mx := mx.kp k6
    replace my := my.kp k6
    replace K := K.tr k6
    go_wp2_with (go_at_call 17; (with_reducible refine (rcmp_any _ _ _ _ _ mx my).mono ?_); rintro e w17 ⟨rfl, k7⟩; refine Hid.out ?_)
    refine Lib.hid ?_
    clear my
    replace mx := mx.kp k7
    replace K := K.tr k7
    go_wp2_with (go_at_call 18; (with_reducible refine (nbits_any _ _ _ mx (Nat.le_trans SX (by omega))).mono ?_); rintro e w18 ⟨rfl, rfl⟩; refine Hid.out ?_)
    refine Lib.hid ?_
    go_wp2_with (go_at_call 19; (with_reducible refine (rbits_any _ _ _ mx (Nat.le_trans SX (by omega))).mono ?_); rintro e w19 ⟨rfl, rfl⟩; refine Hid.out ?_)
    refine Lib.hid ?_
    clear mx
    go_wp2_with (go_at_call 21; (with_reducible refine (of_m hn).mono ?_); rintro e w20 ⟨vo, rfl, mo, k10⟩; refine Hid.out ?_)
    refine Lib.hid ?_
    replace K := K.tr k10
    go_wp2_with (go_at_call 22; (with_reducible refine (rof_any _ _ hn).mono ?_); rintro e w21 ⟨vp, rfl, mp, k11⟩; refine Hid.out ?_)
    refine Lib.hid ?_
    replace mo := mo.kp k11
    replace K := K.tr k11
    go_wp2_with (go_at_call 20; (with_reducible refine (same_m mo mp (rfl)).mono ?_); rintro e w22 ⟨rfl, k12⟩; refine Hid.out ?_)
    refine Lib.hid ?_
    clear mo
    clear mp
    replace K := K.tr k12
    have HAW2 := Lib.hid (awake_any _ (tabKp HT K))
    go_wp2_with (go_at_call 12; (with_reducible refine HAW2.out.mono ?_); rintro e w1 ⟨rfl, K1⟩)
    go_ret
    exact ⟨rfl, K.tr K1⟩
  · have HL := Lib.hid (light_no ha hb hl)
    clear htab ha hb hl
    go_enter Tryd.func3, Tryd.ntmps3
    go_wp2_with (first
      | (go_at_call 11; refine HL.out.mono ?_; rintro e w1 ⟨rfl, rfl⟩)
      | (go_at_call 12; refine HAW.out.mono ?_; rintro e w1 ⟨rfl, K1⟩))
    go_ret
    exact ⟨rfl, K1⟩
end Go.Proofs.YtijadodleiiomaaDoor
