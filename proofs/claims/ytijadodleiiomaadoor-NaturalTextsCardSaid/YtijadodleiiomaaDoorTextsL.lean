/-
  brepkernellaw01.NaturalTexts, by the contracts.
-/
import Derived.Test.YtijadodleiiomaaDoorRParse
namespace Go.Proofs.YtijadodleiiomaaDoor
open Go.RowKit
open Go.Lib (decDigits)

theorem text_m {w : World} {v : Value} {n : Nat} (h : M w v n) (hl : (toL n).length ≤ 1099511627776) (htab : Lib.TabIs Tryd.prog w "internal/strconv.uint64pow10" .u64 Lib.pow10Tab) :
    Calls Tryd.prog 37 #[v] w fun e w' => e = .returned (.string ⟨(decDigits n).toArray⟩) ∧ Kp w w' := by
  have := text_any v _ w h hl htab
  rw [val_toL] at this
  exact this

set_option maxHeartbeats 4000000 in
theorem texts_walk (a : Value) (s : ByteArray) (xs : List Nat) (w : World) (hsz : s.size ≤ 9223372036854775807) (ha : Rd w a xs)
    (htab : Lib.TabIs Tryd.prog w "internal/strconv.uint64pow10" .u64 Lib.pow10Tab) :
    Calls Tryd.prog 7 #[a, .string s] w fun e w' => e = .returned (.bool true) ∧ Kp w w' := by
  have HT := Lib.tabBelow_of_tabIs htab
  have HAW := Lib.hid (awake_any w htab)
  have K : Kp w w := Below.refl _ _
  by_cases hl : xs.length ≤ 40
  · have SX := Sz.val (by obtain ⟨_, _, _, _, _, h, _⟩ := ha; exact h) 40 hl
    have ha' := ha
    obtain ⟨ao, ac, rfl, a1, a2, _, _⟩ := ha
    have ha := ha'
    unfold maxLen at a2
    clear htab ha'
    by_cases h1 : s.size ≤ 300
    · have h2 : s.size ≤ 4096 := by omega
      go_enter Tryd.func7, Tryd.ntmps7
      go_wp2_with (go_at_call 13; refine Hid.out ?_)
      refine Lib.hid ?_
      go_wp2_with (go_at_call 13; (with_reducible refine (mag_m ha (by omega)).mono ?_); rintro e w11 ⟨vx, rfl, mx, k1⟩; refine Hid.out ?_)
      refine Lib.hid ?_
      clear ha
      replace K := K.tr k1
      go_wp2_with (go_at_call 35; (with_reducible refine (parse_any s _ hsz).mono ?_); rintro e w12 ⟨vp, rfl, mp, k2⟩; refine Hid.out ?_)
      refine Lib.hid ?_
      replace mx := mx.kp k2
      replace K := K.tr k2
      go_wp2_with (go_at_call 36; (with_reducible refine (rparse_any s _ hsz).mono ?_); rintro e w13 ⟨vq, rfl, mq, k3⟩; refine Hid.out ?_)
      refine Lib.hid ?_
      replace mx := mx.kp k3
      replace mp := mp.kp k3
      replace K := K.tr k3
      go_wp2_with (go_at_call 37; (with_reducible refine (text_m mx (Nat.le_trans SX (by omega)) (tabKp HT K)).mono ?_); rintro e w14 ⟨rfl, k4⟩; refine Hid.out ?_)
      refine Lib.hid ?_
      replace mx := mx.kp k4
      replace mp := mp.kp k4
      replace mq := mq.kp k4
      replace K := K.tr k4
      go_wp2_with (go_at_call 38; (with_reducible refine (rtext_any _ _ 40 _ mx SX (by omega)).mono ?_); rintro e w15 ⟨rfl, k5⟩; refine Hid.out ?_)
      refine Lib.hid ?_
      clear mx
      replace mp := mp.kp k5
      replace mq := mq.kp k5
      replace K := K.tr k5
      go_wp2_with (go_at_call 20; (with_reducible refine (same_m mp mq (rfl)).mono ?_); rintro e w16 ⟨rfl, k6⟩; refine Hid.out ?_)
      refine Lib.hid ?_
      clear mp
      clear mq
      replace K := K.tr k6
      have HAW2 := Lib.hid (awake_any _ (tabKp HT K))
      go_wp2_with (go_at_call 12; (with_reducible refine HAW2.out.mono ?_); rintro e w1 ⟨rfl, K1⟩)
      go_ret
      exact ⟨rfl, K.tr K1⟩
    · by_cases h2 : s.size ≤ 4096
      · clear ha
        go_enter Tryd.func7, Tryd.ntmps7
        go_wp2_with (go_at_call 12; refine HAW.out.mono ?_; rintro e w1 ⟨rfl, K1⟩)
        go_ret
        exact ⟨rfl, K1⟩
      · have h3 : 4096 < s.size := by omega
        go_enter Tryd.func7, Tryd.ntmps7
        go_wp2_with (go_at_call 13; refine Hid.out ?_)
        refine Lib.hid ?_
        go_wp2_with (go_at_call 13; (with_reducible refine (mag_m ha (by omega)).mono ?_); rintro e w11 ⟨vx, rfl, mx, k1⟩; refine Hid.out ?_)
        refine Lib.hid ?_
        clear ha
        replace K := K.tr k1
        go_wp2_with (go_at_call 35; (with_reducible refine (parse_any s _ hsz).mono ?_); rintro e w12 ⟨vp, rfl, mp, k2⟩; refine Hid.out ?_)
        refine Lib.hid ?_
        replace mx := mx.kp k2
        replace K := K.tr k2
        go_wp2_with (go_at_call 36; (with_reducible refine (rparse_any s _ hsz).mono ?_); rintro e w13 ⟨vq, rfl, mq, k3⟩; refine Hid.out ?_)
        refine Lib.hid ?_
        replace mx := mx.kp k3
        replace mp := mp.kp k3
        replace K := K.tr k3
        go_wp2_with (go_at_call 37; (with_reducible refine (text_m mx (Nat.le_trans SX (by omega)) (tabKp HT K)).mono ?_); rintro e w14 ⟨rfl, k4⟩; refine Hid.out ?_)
        refine Lib.hid ?_
        replace mx := mx.kp k4
        replace mp := mp.kp k4
        replace mq := mq.kp k4
        replace K := K.tr k4
        go_wp2_with (go_at_call 38; (with_reducible refine (rtext_any _ _ 40 _ mx SX (by omega)).mono ?_); rintro e w15 ⟨rfl, k5⟩; refine Hid.out ?_)
        refine Lib.hid ?_
        clear mx
        replace mp := mp.kp k5
        replace mq := mq.kp k5
        replace K := K.tr k5
        go_wp2_with (go_at_call 20; (with_reducible refine (same_m mp mq (rfl)).mono ?_); rintro e w16 ⟨rfl, k6⟩; refine Hid.out ?_)
        refine Lib.hid ?_
        clear mp
        clear mq
        replace K := K.tr k6
        have HAW2 := Lib.hid (awake_any _ (tabKp HT K))
        go_wp2_with (go_at_call 12; (with_reducible refine HAW2.out.mono ?_); rintro e w1 ⟨rfl, K1⟩)
        go_ret
        exact ⟨rfl, K.tr K1⟩
  · obtain ⟨ao, ac, rfl, a1, a2, _, _⟩ := ha
    unfold maxLen at a2
    clear htab
    go_enter Tryd.func7, Tryd.ntmps7
    go_wp2_with (go_at_call 12; refine HAW.out.mono ?_; rintro e w1 ⟨rfl, K1⟩)
    go_ret
    exact ⟨rfl, K1⟩
end Go.Proofs.YtijadodleiiomaaDoor
