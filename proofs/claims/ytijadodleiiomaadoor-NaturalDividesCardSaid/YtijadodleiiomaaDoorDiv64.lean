/-
  math/bits.Div64 for a high word below 2^32 and a divisor from 2^63 on: by walking its text.
-/
import Derived.Test.YtijadodleiiomaaDoorShift
import Derived.Test.YtijadodleiiomaaDoorShelf
namespace Go.Proofs.YtijadodleiiomaaDoor
open Go.RowKit

/-- A guess that is not too small, and whose product is not too large, is the quotient. -/
theorem quo_exact {q Q n y : Nat} (hy : 0 < y) (hQ : Q = n / y) (h1 : Q ≤ q) (h2 : q * y ≤ n) : q = Q := by
  have : q ≤ Q := by rw [hQ]; exact (Nat.le_div_iff_mul_le hy).2 h2
  omega

/-- The test of a guess of a quotient of two digits by two. -/
theorem guess_test {q h y1 y0 N d : Nat} (hN : q * y1 + h = N) : q * (y1 * 4294967296 + y0) ≤ N * 4294967296 + d ↔ q * y0 ≤ 4294967296 * h + d := by
  have e1 : q * (y1 * 4294967296 + y0) = q * y1 * 4294967296 + q * y0 := by rw [Nat.mul_add, ← Nat.mul_assoc]
  have e2 : N * 4294967296 = q * y1 * 4294967296 + 4294967296 * h := by rw [← hN, Nat.add_mul, Nat.mul_comm h]
  rw [e1, e2]
  generalize q * y1 * 4294967296 = a
  generalize q * y0 = b
  generalize 4294967296 * h = c
  omega

theorem guess_down {q Q n y : Nat} (hy : 0 < y) (hQ : Q = n / y) (h1 : Q ≤ q) (h2 : ¬ q * y ≤ n) : Q ≤ q - 1 ∧ 0 < q := by
  have : Q < q := by rw [hQ]; exact Nat.div_lt_of_lt_mul (by rw [Nat.mul_comm]; omega)
  omega

theorem lz64 {y : Nat} (h1 : 9223372036854775808 ≤ y) (h2 : y < 18446744073709551616) : (64 - (Lib.bitLen y : Int)) = 0 := by
  have h3 := Lib.bitLen_shift 63 y h1 h2
  have h4 : y / 2 ^ 63 = 1 := by
    rw [show (2 ^ 63 : Nat) = 9223372036854775808 from rfl]
    omega
  rw [h4] at h3
  rw [h3]
  rfl

theorem ret_two {k : IntKind} {a b r : Int} (h : a = b) : Ending.returned (.tuple #[.int k a, .int k r]) = .returned (.tuple #[.int k b, .int k r]) := by rw [h]

theorem and_low {y : Nat} (h : y < 18446744073709551616) : bits .and .u64 (y : Int) 4294967295 = ((y % 4294967296 : Nat) : Int) := by
  have h1 := bits_and_u64_nat y 4294967295 h (by omega)
  rw [show ((4294967295 : Nat) : Int) = 4294967295 from rfl] at h1
  rw [h1, show (4294967295 : Nat) = 2 ^ 32 - 1 from rfl, Nat.and_two_pow_sub_one_eq_mod]

theorem or_zero {h : Nat} (hh : h < 18446744073709551616) {lo : Nat} (hl : lo < 18446744073709551616) : bits .or .u64 (h : Int) ((lo : Int) / 18446744073709551616) = (h : Int) := by
  rw [show ((lo : Int) / 18446744073709551616) = ((0 : Nat) : Int) by omega, bits_or_u64_nat h 0 hh (by omega), Nat.or_zero]

theorem tdivN (a b : Nat) : (a : Int).tdiv (b : Int) = ((a / b : Nat) : Int) := rfl

/-- One digit of a quotient by two digits: the bounds of the first guess. -/
theorem first_guess {N y1 y0 d Q : Nat} (hy : 2147483648 ≤ y1) (hN : N < y1 * 4294967296 + y0) (h0 : y0 < 4294967296) (hd : d < 4294967296) (hQ : Q = (N * 4294967296 + d) / (y1 * 4294967296 + y0)) :
    Q ≤ N / y1 ∧ N / y1 ≤ 4294967297 ∧ Q < 4294967296 := by
  have hyp : 0 < y1 * 4294967296 + y0 := by omega
  have h1 := Nat.div_add_mod N y1
  have h2 := Nat.mod_lt N (show 0 < y1 by omega)
  generalize N / y1 = q at *
  generalize N % y1 = r at *
  refine ⟨?_, ?_, ?_⟩
  · rw [hQ]
    refine Nat.le_of_lt_succ (Nat.div_lt_of_lt_mul ?_)
    have e1 : (y1 * 4294967296 + y0) * (q + 1) = y1 * q * 4294967296 + y1 * 4294967296 + y0 * (q + 1) := by
      rw [Nat.add_mul, Nat.mul_add, Nat.mul_one, Nat.mul_right_comm]
    have e2 : N * 4294967296 = y1 * q * 4294967296 + r * 4294967296 := by rw [← h1, Nat.add_mul]
    rw [e2, Nat.succ_eq_add_one, e1]
    obtain ⟨a, ha⟩ : ∃ a, a = y1 * q * 4294967296 := ⟨_, rfl⟩
    obtain ⟨b, hb⟩ : ∃ b, b = y0 * (q + 1) := ⟨_, rfl⟩
    rw [← ha, ← hb]
    clear ha hb e1 e2 h1 hQ hN
    omega
  · rcases Nat.lt_or_ge 4294967297 q with h | h
    · have := Nat.mul_le_mul_left y1 (show 4294967298 ≤ q from h)
      omega
    · exact h
  · rw [hQ]
    refine Nat.div_lt_of_lt_mul ?_
    obtain ⟨y, hy⟩ : ∃ y, y = y1 * 4294967296 + y0 := ⟨_, rfl⟩
    rw [← hy] at hN ⊢
    clear hy hQ hyp h1 h2
    omega

theorem quo_join {hi lo y u1 u0 q N Q0 : Nat} (hy : 0 < y) (hlo : lo = u1 * 4294967296 + u0) (hq : q = (hi * 4294967296 + u1) / y) (hN : N = (hi * 4294967296 + u1) % y) (hQ : Q0 = (N * 4294967296 + u0) / y) :
    (hi * 18446744073709551616 + lo) / y = q * 4294967296 + Q0 := by
  have h1 := Nat.div_add_mod (hi * 4294967296 + u1) y
  rw [← hq, ← hN] at h1
  have e : hi * 18446744073709551616 + lo = (N * 4294967296 + u0) + y * (q * 4294967296) := by
    rw [hlo, ← Nat.mul_assoc]
    generalize y * q = a at *
    omega
  rw [e, Nat.add_mul_div_left _ _ hy, ← hQ, Nat.add_comm]

set_option maxRecDepth 20000 in
set_option maxHeartbeats 1000000 in
theorem div64_any (hi lo y : Nat) (w : World) (hh : hi < 4294967296) (hl : lo < 18446744073709551616) (hy1 : 9223372036854775808 ≤ y) (hy2 : y < 18446744073709551616) :
    Calls Tryd.prog 79 #[.int .u64 (hi : Nat), .int .u64 (lo : Nat), .int .u64 (y : Nat)] w fun e w' => ∃ r, e = .returned (.tuple #[.int .u64 ((hi * 18446744073709551616 + lo) / y : Nat), .int .u64 r]) ∧ Kp w w' := by
  by_cases hh0 : hi = 0
  · have hz : ((hi : Int) == 0) = true := beq_iff_eq.2 (by omega)
    obtain ⟨q, hq⟩ : ∃ q, q = lo / y := ⟨_, rfl⟩
    have hqb : q ≤ lo := by rw [hq]; exact Nat.div_le_self _ _
    have hqt : (lo : Int).tdiv (y : Int) = (q : Int) := by rw [tdivN, hq]
    have HE : Hid ((hi * 18446744073709551616 + lo) / y = q) := by rw [hh0, hq, Nat.zero_mul, Nat.zero_add]; exact Lib.hid rfl
    clear hq hh0
    go_enter Tryd.func79, Tryd.ntmps79
    go_wp2
    go_quiet (fail)
    go_wp2
    go_ret2
    rw [HE.out]
    exact ⟨_, rfl, Kp.drewN (Below.refl _ _) _⟩
  · have hlz : ∀ W : World, Calls Tryd.prog 88 #[.int .u64 (y : Nat)] W fun e w' => e = .returned (.int .i64 0) ∧ w' = W := by
      intro W
      refine (Tryd.bits_LeadingZeros64 (y : Int) W (by omega) (by omega)).mono ?_
      rintro e w1 ⟨rfl, rfl⟩
      exact ⟨ret_int (lz64 hy1 hy2), rfl⟩
    have HLZ := Lib.hid hlz
    clear hlz
    obtain ⟨y1, hy1e⟩ : ∃ y1, y1 = y / 4294967296 := ⟨_, rfl⟩
    obtain ⟨y0, hy0e⟩ : ∃ y0, y0 = y % 4294967296 := ⟨_, rfl⟩
    obtain ⟨u1, hu1e⟩ : ∃ u1, u1 = lo / 4294967296 := ⟨_, rfl⟩
    obtain ⟨u0, hu0e⟩ : ∃ u0, u0 = lo % 4294967296 := ⟨_, rfl⟩
    have hye : y = y1 * 4294967296 + y0 := by omega
    have hlo : lo = u1 * 4294967296 + u0 := by omega
    have a1 : ((y : Int) / 4294967296) = (y1 : Int) := by omega
    have aa := and_low hy2
    have a3 : ((lo : Int) / 4294967296) = (u1 : Int) := by omega
    have a4 := and_low hl
    have a5 := or_zero (show hi < 18446744073709551616 by omega) hl
    rw [← hy0e] at aa
    rw [← hu0e] at a4
    have b1 : 2147483648 ≤ y1 := by omega
    have b2 : y1 < 4294967296 := by omega
    have b3 : y0 < 4294967296 := by omega
    have b4 : u1 < 4294967296 := by omega
    have b5 : u0 < 4294967296 := by omega
    obtain ⟨q1, hq1⟩ : ∃ q1, q1 = hi / y1 := ⟨_, rfl⟩
    obtain ⟨h1, hh1⟩ : ∃ h1, h1 = hi % y1 := ⟨_, rfl⟩
    obtain ⟨m1, hm1⟩ : ∃ m1, m1 = q1 * y1 := ⟨_, rfl⟩
    have hqh : m1 + h1 = hi := by rw [hm1, hq1, hh1, Nat.mul_comm]; exact Nat.div_add_mod _ _
    have c1 : (hi : Int).tdiv (y1 : Int) = (q1 : Int) := by rw [tdivN, hq1]
    have c2 : (q1 : Int) * (y1 : Int) = (m1 : Int) := by rw [hm1, Int.natCast_mul]
    have c3 : q1 ≤ 1 := by
      rw [hq1]
      exact Nat.le_of_lt_succ (Nat.div_lt_of_lt_mul (by omega))
    obtain ⟨Q1, hQ1⟩ : ∃ Q1, Q1 = (hi * 4294967296 + u1) / y := ⟨_, rfl⟩
    obtain ⟨N, hN⟩ : ∃ N, N = (hi * 4294967296 + u1) % y := ⟨_, rfl⟩
    obtain ⟨Q0, hQ0⟩ : ∃ Q0, Q0 = (N * 4294967296 + u0) / y := ⟨_, rfl⟩
    have hNy : N < y := by rw [hN]; exact Nat.mod_lt _ (by omega)
    obtain ⟨Z, hZ⟩ : ∃ Z, Z = (hi * 18446744073709551616 + lo) / y := ⟨_, rfl⟩
    have hJ := Lib.hid (quo_join (show 0 < y by omega) hlo hQ1 hN hQ0)
    have hQ1' : Q1 = (hi * 4294967296 + u1) / (y1 * 4294967296 + y0) := by rw [← hye]; exact hQ1
    have hQ0' : Q0 = (N * 4294967296 + u0) / (y1 * 4294967296 + y0) := by rw [← hye]; exact hQ0
    rw [← hZ] at hJ ⊢
    clear hZ
    have hF1 := first_guess b1 (show hi < y1 * 4294967296 + y0 by omega) b3 b4 hQ1'
    have hF0 := first_guess b1 (show N < y1 * 4294967296 + y0 by omega) b3 b5 hQ0'
    rw [← hq1] at hF1
    have HQ1 := Lib.hid hQ1
    have HQ0 := Lib.hid hQ0
    have HYE := Lib.hid hye
    have HL1 := Lib.hid hF1.1
    have HN := Lib.hid (Nat.div_add_mod (hi * 4294967296 + u1) y)
    rw [← hQ1, ← hN] at HN
    have HF0 := Lib.hid hF0
    have HH1 : Hid (q1 * y1 + h1 = hi) := Lib.hid (by omega)
    have hh1b : h1 ≤ hi := by omega
    clear hQ1' hQ0' hy1e hy0e hu1e hu0e hq1 hh1 hm1 hQ1 hN hQ0 hF1 hF0 hye hlo
    go_enter Tryd.func79, Tryd.ntmps79
    go_wp2_with (go_at_call 88; refine (HLZ.out _).mono ?_; rintro e w1 ⟨rfl, rfl⟩)
    go_loop [15, 16] (fun a b => ∃ q h : Nat, a = .int .u64 q ∧ b = .int .u64 h ∧ q ≤ 1 ∧ h ≤ hi ∧ q * y1 + h = hi ∧ Q1 ≤ q) (fun a _ => (intOf a).toNat)
    case atStart => exact ⟨q1, h1, by go_num, by go_num, c3, hh1b, HH1.out, HL1.out⟩
    case round =>
      obtain ⟨q, h, rfl, rfl, hq, hhi, hqh', hQ⟩ := hrel
      have T := guess_test (y0 := y0) (d := u1) hqh'
      rw [← HYE.out] at T
      obtain ⟨p, hp⟩ : ∃ p, p = q * y0 := ⟨_, rfl⟩
      obtain ⟨H, hH⟩ : ∃ H, H = 4294967296 * h := ⟨_, rfl⟩
      have hpb : p ≤ 1 * y0 := by rw [hp]; exact Nat.mul_le_mul_right _ hq
      have hpi : (q : Int) * (y0 : Int) = (p : Int) := by rw [hp, Int.natCast_mul]
      have hHi : (4294967296 : Int) * (h : Int) = (H : Int) := by omega
      have hHb : H + u1 ≤ 18446744073709551615 := by omega
      rw [← hp, ← hH] at T
      have hA : decide ((4294967296 : Int) ≤ (q : Int)) = false := decide_eq_false (by omega)
      have hC : (4294967296 ≤ q) = False := eq_false (by omega)
      by_cases ht : p ≤ H + u1
      · have hqQ := quo_exact (by omega) HQ1.out hQ (T.2 ht)
        subst hqQ
        obtain ⟨m2, hm2⟩ : ∃ m2, m2 = q * y := ⟨_, rfl⟩
        have g1 : (q : Int) * (y : Int) = (m2 : Int) := by rw [hm2, Int.natCast_mul]
        have hm2' : y * q = m2 := by rw [hm2, Nat.mul_comm]
        have g2 : m2 ≤ 18446744073709551615 := by have := HN.out; omega
        have g3 : IntKind.u64.wrap ((hi : Int) * 4294967296 + (u1 : Int) - (m2 : Int)) = (N : Int) := by
          have := HN.out
          rw [hm2'] at this
          rw [IntWalk.u64_in _ (by omega)]
          omega
        obtain ⟨a2, ha2⟩ : ∃ a2, a2 = N / y1 := ⟨_, rfl⟩
        obtain ⟨m3, hm3⟩ : ∃ m3, m3 = a2 * y1 := ⟨_, rfl⟩
        obtain ⟨h2, hh2⟩ : ∃ h2, h2 = N % y1 := ⟨_, rfl⟩
        have hdm : m3 + h2 = N := by rw [hm3, ha2, hh2, Nat.mul_comm]; exact Nat.div_add_mod _ _
        have hh2b : h2 < y1 := by rw [hh2]; exact Nat.mod_lt _ (by omega)
        have g4 : (N : Int).tdiv (y1 : Int) = (a2 : Int) := by rw [tdivN, ha2]
        have hF := HF0.out
        rw [← ha2] at hF
        have g5 : a2 ≤ 4294967297 := hF.2.1
        have g6 : (a2 : Int) * (y1 : Int) = (m3 : Int) := by rw [hm3, Int.natCast_mul]
        have g7 : m3 ≤ 18446744073709551615 := by omega
        have g8 : IntKind.u64.wrap ((N : Int) - (m3 : Int)) = (h2 : Int) := by
          rw [IntWalk.u64_in _ (by omega)]
          omega
        have HD : Hid (a2 * y1 + h2 = N) := Lib.hid (by rw [← hm3]; exact hdm)
        have HF := Lib.hid hF
        have hNb : N < 18446744073709551616 := by omega
        clear hqh' hp T hQ hqh c1 c2 c3 hh1b a1 a3 a4 a5 hy1 hhi hh0 hH hm2 hm2' ha2 hm3 hh2 hdm hF
        go_wp2
        go_loop [16, 18] (fun a b => ∃ q h : Nat, a = .int .u64 h ∧ b = .int .u64 q ∧ q ≤ 4294967297 ∧ h < 4294967296 ∧ q * y1 + h = N ∧ Q0 ≤ q) (fun _ b => (intOf b).toNat)
        case atStart => exact ⟨a2, h2, by go_num, by go_num, g5, by omega, HD.out, HF.out.1⟩
        case round =>
          clear hA hC g1 g2 g3 g4 g5 g6 g7 g8 hpb hpi hHi hHb ht
          obtain ⟨q', h', rfl, rfl, hq', hh', hqh', hQ'⟩ := hrel
          have T := guess_test (y0 := y0) (d := u0) hqh'
          rw [← HYE.out] at T
          obtain ⟨p', hp'⟩ : ∃ p, p = q' * y0 := ⟨_, rfl⟩
          obtain ⟨H', hH'⟩ : ∃ H, H = 4294967296 * h' := ⟨_, rfl⟩
          have hpb : p' ≤ 18446744073709551615 := by
            have := Nat.mul_le_mul hq' (show y0 ≤ 4294967295 by omega)
            omega
          have hpi : (q' : Int) * (y0 : Int) = (p' : Int) := by rw [hp', Int.natCast_mul]
          have hHi : (4294967296 : Int) * (h' : Int) = (H' : Int) := by omega
          have hHb : H' + u0 ≤ 18446744073709551615 := by omega
          rw [← hp', ← hH'] at T
          by_cases hx : q' < 4294967296 ∧ p' ≤ H' + u0
          · have hA : decide ((4294967296 : Int) ≤ (q' : Int)) = false := decide_eq_false (by omega)
            have hC : (4294967296 ≤ q') = False := eq_false (by omega)
            have hqQ := quo_exact (by omega) HQ0.out hQ' (T.2 hx.2)
            have hx2 := hx.2
            subst hqQ
            clear hqh' hp' T hQ' hH' hx hNy
            go_wp2
            go_ret2
            exact ⟨⟨_, ret_two (by have := hJ.out; omega)⟩, Below.refl _ _⟩
          · have hdn : Q0 ≤ q' - 1 ∧ 0 < q' := by
              by_cases hc : q' < 4294967296
              · exact guess_down (show 0 < y by omega) HQ0.out hQ' (fun e => hx ⟨hc, T.1 e⟩)
              · have := HF.out.2.2
                omega
            have hHN : (q' - 1) * y1 + (h' + y1) = N := by
              obtain ⟨r, rfl⟩ : ∃ r, q' = r + 1 := ⟨q' - 1, by omega⟩
              rw [Nat.add_sub_cancel, ← hqh', Nat.add_mul, Nat.one_mul]
              omega
            have HHN := Lib.hid hHN
            have HDN := Lib.hid hdn.1
            have hq0 := hdn.2
            by_cases hy' : h' + y1 < 4294967296
            · have hB : decide ((4294967296 : Int) ≤ (h' : Int) + (y1 : Int)) = false := decide_eq_false (by omega)
              have hD : (4294967296 ≤ h' + y1) = False := eq_false (by omega)
              clear T hHN hdn hqh' hp' hH' hQ' hNy
              by_cases hc : q' < 4294967296
              · have hA : decide ((4294967296 : Int) ≤ (q' : Int)) = false := decide_eq_false (by omega)
                have hC : (4294967296 ≤ q') = False := eq_false (by omega)
                have hx2 : ¬ p' ≤ H' + u0 := fun e => hx ⟨hc, e⟩
                clear hx
                go_wp2
                go_round
                case rel => exact ⟨q' - 1, h' + y1, by go_num, by go_num, by omega, hy', HHN.out, HDN.out⟩
                case measure => simp [intOf]; omega
              · have hA : decide ((4294967296 : Int) ≤ (q' : Int)) = true := decide_eq_true (by omega)
                have hC : (4294967296 ≤ q') = True := eq_true (by omega)
                clear hx
                go_wp2
                go_round
                case rel => exact ⟨q' - 1, h' + y1, by go_num, by go_num, by omega, hy', HHN.out, HDN.out⟩
                case measure => simp [intOf]; omega
            · have hB : decide ((4294967296 : Int) ≤ (h' : Int) + (y1 : Int)) = true := decide_eq_true (by omega)
              have hD : (4294967296 ≤ h' + y1) = True := eq_true (by omega)
              have hfin : q' - 1 = Q0 := by
                refine quo_exact (by omega) HQ0.out hdn.1 ?_
                rw [HYE.out]
                refine (guess_test hHN).2 ?_
                have := Nat.mul_le_mul (show q' - 1 ≤ 4294967296 by omega) (show y0 ≤ 4294967295 by omega)
                omega
              have HFIN := Lib.hid hfin
              clear T hHN hdn hqh' hp' hH' hQ' hNy hfin
              by_cases hc : q' < 4294967296
              · have hA : decide ((4294967296 : Int) ≤ (q' : Int)) = false := decide_eq_false (by omega)
                have hC : (4294967296 ≤ q') = False := eq_false (by omega)
                have hx2 : ¬ p' ≤ H' + u0 := fun e => hx ⟨hc, e⟩
                clear hx
                go_wp2
                go_ret2
                exact ⟨⟨_, ret_two (by have h1 := hJ.out; have h2 := HFIN.out; omega)⟩, Below.refl _ _⟩
              · have hA : decide ((4294967296 : Int) ≤ (q' : Int)) = true := decide_eq_true (by omega)
                have hC : (4294967296 ≤ q') = True := eq_true (by omega)
                clear hx
                go_wp2
                go_ret2
                exact ⟨⟨_, ret_two (by have h1 := hJ.out; have h2 := HFIN.out; omega)⟩, Below.refl _ _⟩
      · have hd := guess_down (show 0 < y by omega) HQ1.out hQ (fun e => ht (T.1 e))
        obtain ⟨hd1, hd2⟩ := hd
        have hhy : h + y1 = hi := by
          have e : q = 1 := by omega
          rw [e] at hqh'
          omega
        have hB : decide ((4294967296 : Int) ≤ (h : Int) + (y1 : Int)) = false := decide_eq_false (by omega)
        have hD : (4294967296 ≤ h + y1) = False := eq_false (by omega)
        have HY := Lib.hid hhy
        have HQD : Hid (Q1 ≤ 0) := Lib.hid (by omega)
        clear T hQ hqh' hp hH hd1 hqh c1 c2 c3 hh1b hhy hy1 hh0
        go_wp2
        go_round
        case rel => exact ⟨0, h + y1, by go_num, by go_num, by omega, Nat.le_of_eq HY.out, by rw [Nat.zero_mul, Nat.zero_add]; exact HY.out, HQD.out⟩
        case measure => simp [intOf]; omega
end Go.Proofs.YtijadodleiiomaaDoor
