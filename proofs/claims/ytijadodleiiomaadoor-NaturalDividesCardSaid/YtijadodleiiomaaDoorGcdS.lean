/-
  natural.gcdSmall: by walking its text.
-/
import Derived.Test.YtijadodleiiomaaDoorTz
import Derived.Test.YtijadodleiiomaaDoorGcdM
namespace Go.Proofs.YtijadodleiiomaaDoor
open Go.RowKit

theorem shr_odd {x a u : Nat} (h : x = 2 ^ a * u) : (x : Int) / 2 ^ a = (u : Int) := by
  have h1 : x / 2 ^ a = u := by rw [h, Nat.mul_comm, Nat.mul_div_cancel _ (Nat.pow_pos (by omega))]
  rw [← h1, Int.natCast_ediv, Int.natCast_pow]
  rfl

theorem shl_back {X t g : Nat} (h : g = 2 ^ t * X) (hg : g < 18446744073709551616) : IntKind.u64.wrap ((X : Int) * 2 ^ t) = (g : Int) := by
  have h1 : (X : Int) * 2 ^ t = (g : Int) := by
    rw [h, Int.natCast_mul, Int.natCast_pow, Int.mul_comm]
    rfl
  rw [h1, IntWalk.u64_in _ (by omega)]

set_option maxRecDepth 20000 in
set_option maxHeartbeats 1000000 in
theorem gcdSmall_any (x y : Nat) (hx : x < 18446744073709551616) (hy : y < 18446744073709551616) (h0 : x ≠ 0) (w : World) (hT : Tz w) :
    Calls Tryd.prog 57 #[.int .u64 (x : Nat), .int .u64 (y : Nat)] w fun e w' => e = .returned (.int .u64 (Nat.gcd x y : Nat)) ∧ Kp w w' := by
  have hor := bits_or_u64_nat x y hx hy
  have hob : x ||| y < 18446744073709551616 := Nat.or_lt_two_pow (n := 64) hx hy
  have ho0 : x ||| y ≠ 0 := by
    intro e
    apply h0
    apply Nat.eq_of_testBit_eq
    intro i
    have := congrArg (fun z => Nat.testBit z i) e
    simp at this
    simp [this.1]
  obtain ⟨z, hz⟩ : ∃ z, z = x ||| y := ⟨_, rfl⟩
  rw [← hz] at hor hob ho0
  obtain ⟨t, m, hzt, ht, hc1⟩ := tz64_any z hob ho0 w hT
  obtain ⟨a, u', hxa, ha, hc2⟩ := tz64_any x hx h0 w hT
  obtain ⟨u, hu⟩ : ∃ u, u = 2 * u' + 1 := ⟨_, rfl⟩
  rw [← hu] at hxa
  have hodd : u % 2 = 1 := by omega
  have hst := gcd_start hxa hodd (hz ▸ hzt)
  have hxu := shr_odd hxa
  have hul : u ≤ x := by rw [hxa]; exact Nat.le_mul_of_pos_left _ (Nat.pow_pos (by omega))
  obtain ⟨g, hg⟩ : ∃ g, g = Nat.gcd x y := ⟨_, rfl⟩
  have hgx : g ≤ x := by rw [hg]; exact Nat.le_of_dvd (by omega) (Nat.gcd_dvd_left _ _)
  rw [← hg] at hst
  rw [← hg]
  have HST := Lib.hid hst
  have HC1 := Lib.hid hc1
  have HC2 := Lib.hid hc2
  have HT := Lib.hid hT
  have HOD := Lib.hid hodd
  have hu0 : 0 < u := by omega
  clear hst hc1 hc2 hT hodd hxa hzt hz hu hg
  go_enter Tryd.func57, Tryd.ntmps57
  go_wp2_with (go_at_call 76; first | ((with_reducible refine HC1.out.mono ?_); rintro e w1 ⟨rfl, rfl⟩) | ((with_reducible refine HC2.out.mono ?_); rintro e w1 ⟨rfl, rfl⟩))
  obtain ⟨w0, rfl⟩ : ∃ w0, w0 = w1 := ⟨_, rfl⟩
  go_loopw [0, 1] (fun xv yv wr => ∃ X Y : Nat, xv = .int .u64 X ∧ yv = .int .u64 Y ∧ X < 18446744073709551616 ∧ Y < 18446744073709551616 ∧ 0 < X ∧ Hid (X % 2 = 1) ∧ Hid (Nat.gcd X Y = Nat.gcd u y) ∧ Kp w0 wr) (fun xv yv _ => (intOf xv + intOf yv).toNat)
  case atStart => exact ⟨u, y, rfl, rfl, by omega, hy, hu0, HOD, Lib.hid rfl, Below.refl _ _⟩
  case round =>
    obtain ⟨X, Y, rfl, rfl, hX, hY, hX0, HXo, HXg, K1⟩ := hrel
    by_cases hY0 : Y = 0
    · have hfin : g = 2 ^ t * X := by
        have h1 := HXg.out
        rw [hY0, Nat.gcd_zero_right] at h1
        rw [HST.out, ← h1]
      have hsh := shl_back hfin (by omega)
      subst hY0
      clear hfin
      go_wp2
      go_ret
      exact ⟨rfl, K1⟩
    · by_cases hX1 : X = 1
      · have hfin : g = 2 ^ t * X := by
          have h1 := HXg.out
          rw [hX1, Nat.gcd_one_left] at h1
          rw [HST.out, ← h1, hX1]
        have hsh := shl_back hfin (by omega)
        have hy1 : ((Y : Int) == 0) = false := beq_eq_false_iff_ne.2 (by omega)
        have hx1 : ((X : Int) == 1) = true := beq_iff_eq.2 (by omega)
        have hy2 : ((Y : Int) != 0) = true := by rw [bne_iff_ne]; omega
        have hx2 : ((X : Int) != 1) = false := by rw [hX1]; rfl
        clear hfin hX1
        go_wp2
        go_ret
        exact ⟨rfl, K1⟩
      · obtain ⟨b, v', hYb, hb, hc⟩ := tz64_any Y hY hY0 wr (HT.out.kp K1)
        obtain ⟨v, hv⟩ : ∃ v, v = 2 * v' + 1 := ⟨_, rfl⟩
        rw [← hv] at hYb
        have hvo : v % 2 = 1 := by omega
        have hvY : v ≤ Y := by rw [hYb]; exact Nat.le_mul_of_pos_left _ (Nat.pow_pos (by omega))
        have hsv := shr_odd hYb
        have hr := gcd_round HXo.out hYb hvo
        have hv0 : 0 < v := by omega
        obtain ⟨mn, hmn⟩ : ∃ mn, mn = min X v := ⟨_, rfl⟩
        obtain ⟨mx, hmx⟩ : ∃ mx, mx = max X v := ⟨_, rfl⟩
        have hmn1 : min (X : Int) (v : Int) = (mn : Int) := by omega
        have hmx1 : max (X : Int) (v : Int) = (mx : Int) := by omega
        have hle : mn ≤ mx := by omega
        have hmb : mx < 18446744073709551616 := by omega
        have hm0 : 0 < mn := by omega
        rw [← hmn, ← hmx] at hr
        have hlt := hr.2.2
        have HR := Lib.hid hr
        have HC := Lib.hid hc
        have hy1 : ((Y : Int) == 0) = false := beq_eq_false_iff_ne.2 (by omega)
        have hx1 : ((X : Int) == 1) = false := beq_eq_false_iff_ne.2 (by omega)
        have hy2 : ((Y : Int) != 0) = true := by rw [bne_iff_ne]; omega
        have hx2 : ((X : Int) != 1) = true := by rw [bne_iff_ne]; omega
        clear hYb hvo hr hc hv hmn hmx
        go_wp2_with (go_at_call 76; refine HC.out.mono ?_; rintro e w1 ⟨rfl, rfl⟩)
        go_roundw
        case rel => exact ⟨mn, mx - mn, by go_num, by go_num, by omega, by omega, hm0, Lib.hid HR.out.2.1, Lib.hid (HR.out.1.trans HXg.out), K1⟩
        case measure => simp [intOf]; omega
end Go.Proofs.YtijadodleiiomaaDoor
