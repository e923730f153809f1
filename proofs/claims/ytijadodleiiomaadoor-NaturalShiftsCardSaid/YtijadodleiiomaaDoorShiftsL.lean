/-
  brepkernellaw01.NaturalShifts, by the contracts.
-/
import Derived.Test.YtijadodleiiomaaDoorRShift
import Derived.Test.YtijadodleiiomaaDoorAddsL
namespace Go.Proofs.YtijadodleiiomaaDoor
open Go.RowKit

set_option maxHeartbeats 4000000 in
theorem shifts_walk (a : Value) (xs : List Nat) (n : Int) (w : World) (ha : Rd w a xs) (h1 : -9223372036854775808 ≤ n)
    (htab : Lib.TabIs Tryd.prog w "internal/strconv.uint64pow10" .u64 Lib.pow10Tab) :
    Calls Tryd.prog 6 #[a, .int .i64 n] w fun e w' => e = .returned (.bool true) ∧ Kp w w' := by
  have HT := Lib.tabBelow_of_tabIs htab
  have HAW := Lib.hid (awake_any w htab)
  have HA := Lib.hid ha
  by_cases hl : xs.length ≤ 40
  · have SX := Sz.val (by obtain ⟨_, _, _, _, _, h, _⟩ := ha; exact h) 40 hl
    have K : Kp w w := Below.refl _ _
    obtain ⟨ao, ac, rfl, a1, a2, _, _⟩ := ha
    have ha := HA.out
    unfold maxLen at a2
    clear htab
    by_cases hn : 16384 < n
    · clear h1
      go_enter Tryd.func6, Tryd.ntmps6
      go_wp2_with (go_at_call 13; refine Hid.out ?_)
      refine Lib.hid ?_
      go_wp2_with (go_at_call 13; (with_reducible refine (mag_m ha (by omega)).mono ?_); rintro e w11 ⟨vx, rfl, mx, k1⟩; refine Hid.out ?_)
      refine Lib.hid ?_
      clear ha
      replace K := K.tr k1
      go_wp2_with (go_at_call 33; (with_reducible refine (shift_far _ _ _ hn).mono ?_); rintro e w12 ⟨rfl, rfl⟩; refine Hid.out ?_)
      refine Lib.hid ?_
      go_wp2_with (go_at_call 34; (with_reducible refine (rshift_far _ _ _ hn).mono ?_); rintro e w13 ⟨rfl, rfl⟩; refine Hid.out ?_)
      refine Lib.hid ?_
      go_wp2_with (go_at_call 20; (with_reducible refine (same_m m_nil m_nil rfl).mono ?_); rintro e w14 ⟨rfl, k4⟩; refine Hid.out ?_)
      refine Lib.hid ?_
      clear mx
      replace K := K.tr k4
      have HAW2 := Lib.hid (awake_any _ (tabKp HT K))
      go_wp2_with (go_at_call 12; (with_reducible refine HAW2.out.mono ?_); rintro e w1 ⟨rfl, K1⟩)
      go_ret
      exact ⟨rfl, K.tr K1⟩
    · by_cases hn0 : 0 ≤ n
      · obtain ⟨k, rfl⟩ := Int.eq_ofNat_of_zero_le hn0
        have hk : k ≤ 16384 := by omega
        clear hn0 h1 hn
        go_enter Tryd.func6, Tryd.ntmps6
        go_wp2_with (go_at_call 13; refine Hid.out ?_)
        refine Lib.hid ?_
        go_wp2_with (go_at_call 13; (with_reducible refine (mag_m ha (by omega)).mono ?_); rintro e w11 ⟨vx, rfl, mx, k1⟩; refine Hid.out ?_)
        refine Lib.hid ?_
        clear ha
        replace K := K.tr k1
        go_wp2_with (go_at_call 33; (with_reducible refine (shift_up mx SX (by omega) k hk).mono ?_); rintro e w12 ⟨vp, rfl, mp, k2⟩; refine Hid.out ?_)
        refine Lib.hid ?_
        replace mx := mx.kp k2
        replace K := K.tr k2
        go_wp2_with (go_at_call 34; (with_reducible refine (rshift_up mx SX (by omega) k hk).mono ?_); rintro e w13 ⟨vq, rfl, mq, k3⟩; refine Hid.out ?_)
        refine Lib.hid ?_
        clear mx
        replace mp := mp.kp k3
        replace K := K.tr k3
        go_wp2_with (go_at_call 20; (with_reducible refine (same_m mp mq (rfl)).mono ?_); rintro e w14 ⟨rfl, k4⟩; refine Hid.out ?_)
        refine Lib.hid ?_
        clear mp
        clear mq
        replace K := K.tr k4
        have HAW2 := Lib.hid (awake_any _ (tabKp HT K))
        go_wp2_with (go_at_call 12; (with_reducible refine HAW2.out.mono ?_); rintro e w1 ⟨rfl, K1⟩)
        go_ret
        exact ⟨rfl, K.tr K1⟩
      · obtain ⟨k, rfl⟩ : ∃ k : Nat, n = -(k : Int) := ⟨n.natAbs, by omega⟩
        have hk : k ≤ 9223372036854775808 := by omega
        have hk0 : 0 < k := by omega
        have HK := Lib.hid hk
        have HKK := Lib.hid (fun (w : World) (a : Value) (h : M w a (val xs)) => shift_down h SX (by omega) k hk0 hk)
        clear h1 hn hn0 hk
        go_enter Tryd.func6, Tryd.ntmps6
        go_wp2_with (go_at_call 13; refine Hid.out ?_)
        refine Lib.hid ?_
        go_wp2_with (go_at_call 13; (with_reducible refine (mag_m ha (by omega)).mono ?_); rintro e w11 ⟨vx, rfl, mx, k1⟩; refine Hid.out ?_)
        refine Lib.hid ?_
        clear ha
        replace K := K.tr k1
        go_wp2_with (go_at_call 33; (with_reducible refine (HKK.out _ _ mx).mono ?_); rintro e w12 ⟨vp, rfl, mp, k2⟩; refine Hid.out ?_)
        refine Lib.hid ?_
        replace mx := mx.kp k2
        replace K := K.tr k2
        go_wp2_with (go_at_call 34; (with_reducible refine (rshift_down mx SX (by omega) k hk0).mono ?_); rintro e w13 ⟨vq, rfl, mq, k3⟩; refine Hid.out ?_)
        refine Lib.hid ?_
        clear mx
        replace mp := mp.kp k3
        replace K := K.tr k3
        go_wp2_with (go_at_call 20; (with_reducible refine (same_m mp mq (rfl)).mono ?_); rintro e w14 ⟨rfl, k4⟩; refine Hid.out ?_)
        refine Lib.hid ?_
        clear mp
        clear mq
        replace K := K.tr k4
        have HAW2 := Lib.hid (awake_any _ (tabKp HT K))
        go_wp2_with (go_at_call 12; (with_reducible refine HAW2.out.mono ?_); rintro e w1 ⟨rfl, K1⟩)
        go_ret
        exact ⟨rfl, K.tr K1⟩
  · obtain ⟨ao, ac, rfl, a1, a2, _, _⟩ := ha
    have hgt : decide ((40 : Int) < xs.length) = true := decide_eq_true (by omega)
    unfold maxLen at a2
    clear htab h1
    go_enter Tryd.func6, Tryd.ntmps6
    go_wp2_with (go_at_call 12; refine HAW.out.mono ?_; rintro e w1 ⟨rfl, K1⟩)
    go_ret
    exact ⟨rfl, K1⟩
end Go.Proofs.YtijadodleiiomaaDoor
