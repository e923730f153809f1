/-
  Several texts in one: QuotL, Q8, Qp1, Qp2, Qc, Qx, Qf.
-/
import Derived.Test.YtmnnnoeenfmckaaGreatDoorBf
import Derived.Test.YtmnnnoeenfmckaaGreatDoorBy
import Derived.Test.YtmnnnoeenfmckaaGreatDoorBc
import Derived.Test.YtmnnnoeenfmckaaGreatDoorBg
import Derived.Lib.AtoiErrMem
/-
  brepkernellaw01.NaturalQuotient, by the contracts.
-/
namespace Go.Proofs.YtmnnnoeenfmckaaGreatDoor
open Go.RowKit

theorem div_m {w : World} {a b : Value} {m n : Nat} (ha : M w a m) (hb : M w b n) {k : Nat} (hs : Sz k m) (hk : k ≤ 549755813888) (hn : n ≠ 0) (hT : Tz w) :
    Calls Tryz.prog 119 #[a, b] w fun e w' => ∃ q r, e = .returned (.tuple #[q, r, .int .i64 0]) ∧ M w' q (m / n) ∧ M w' r (m % n) ∧ Kp w w' := by
  refine (div_any ha hb hs hk hn hT).mono ?_
  rintro e w' ⟨q, r, he, hq, hr, k⟩
  exact ⟨q, r, he, hq, hr.m, k⟩

theorem div_none {w : World} {a b : Value} {m n : Nat} (ha : M w a m) (hb : M w b n) (hn : n = 0) :
    Calls Tryz.prog 119 #[a, b] w fun e w' => e = .returned (.tuple #[.slice none 0 0, .slice none 0 0, .int .i64 3]) ∧ Kp w w' := by
  subst hn
  refine (div_zero ha hb).mono ?_
  rintro e w' ⟨he, rfl⟩
  exact ⟨he, Below.refl _ _⟩

theorem m_zero {w : World} {v : Value} (h : M w v 0) : ∃ o c, v = .slice o 0 c := by
  obtain ⟨o, c, e, _⟩ := h
  rw [toL_zero] at e
  exact ⟨o, c, e⟩

theorem div_exact {w : World} {a b : Value} {m n : Nat} (ha : M w a m) (hb : M w b n) {k : Nat} (hs : Sz k m) (hk : k ≤ 549755813888) (hn : n ≠ 0) (hd : n ∣ m) (hT : Tz w) :
    Calls Tryz.prog 119 #[a, b] w fun e w' => ∃ q o c, e = .returned (.tuple #[q, .slice o 0 c, .int .i64 0]) ∧ Kp w w' := by
  refine (div_m ha hb hs hk hn hT).mono ?_
  rintro e w' ⟨q, r, he, hq, hr, k⟩
  rw [Nat.mod_eq_zero_of_dvd hd] at hr
  obtain ⟨o, c, rfl⟩ := m_zero hr
  exact ⟨q, o, c, he, k⟩

theorem cmp_less {w : World} {a b : Value} {m n : Nat} (ha : M w a m) (hb : M w b n) (h : m < n) :
    Calls Tryz.prog 112 #[a, b] w fun e w' => e = .returned (.int .i64 (-1)) ∧ Kp w w' := by
  have := cmp_any a b _ _ w ha hb
  rw [val_toL, val_toL, cmpv_lt h] at this
  exact this

theorem mag_slice2 {w : World} {v : Value} {n k : Nat} (h : M w v n) (hk : k = (toL n).length) : ∃ o c, v = .slice o k c := by
  obtain ⟨o, c, e, _⟩ := h
  exact ⟨o, c, by rw [hk, e]⟩

end Go.Proofs.YtmnnnoeenfmckaaGreatDoor

/-
  rational.round, Down, Up, Floor: by walking their texts.
-/
namespace Go.Proofs.YtmnnnoeenfmckaaGreatDoor
open Go.RowKit

/-- The digits behind the point, within their limits. -/
def scaleQ (k : Int) : Nat := (min (max k 0) 4096).toNat
theorem scaleQ_le (k : Int) : scaleQ k ≤ 4096 := by unfold scaleQ; omega
theorem szq_pow2 {n k : Nat} (h : n < 32 * k) : Sz k (2 ^ n) := by
  refine length_toL_le _ k ?_
  have h32 : (4294967296 : Nat) ^ k = 2 ^ (32 * k) := by rw [Nat.pow_mul]
  rw [h32]
  exact Nat.pow_lt_pow_right (by decide) h
theorem szq_pow {n : Nat} (h : n ≤ 4096) : Sz 129 (2 ^ n) := szq_pow2 (by omega)
theorem of_m (n : Nat) (w : World) (hn : n < 18446744073709551616) :
    Calls Tryz.prog 121 #[.int .u64 n] w fun e w' => ∃ v', e = .returned v' ∧ M w' v' n ∧ Kp w w' := of_any n w hn
theorem roundQ_zero {away : Bool} {x : Rat} {K : Nat} (h : away = false ∨ x.num.natAbs * 2 ^ K % x.den = 0) : roundQ away x K = x.num.natAbs * 2 ^ K / x.den := by
  unfold roundQ
  rw [if_neg (by rintro ⟨h1, h2⟩; rcases h with h | h; · rw [h] at h1; cases h1
                 · exact h2 h), Nat.add_zero]
theorem roundQ_one {x : Rat} {K : Nat} (h : x.num.natAbs * 2 ^ K % x.den ≠ 0) : roundQ true x K = x.num.natAbs * 2 ^ K / x.den + 1 := by
  unfold roundQ
  rw [if_pos ⟨rfl, h⟩]

theorem m_len_zero' {w : World} {o : Option Addr} {l c n : Nat} (h : M w (.slice o l c) n) : l = 0 ↔ n = 0 := by
  obtain ⟨o', c', e, _⟩ := h
  have := (by simpa using e : o = o' ∧ l = (toL n).length ∧ c = c')
  rw [this.2.1, List.length_eq_zero_iff, toL_nil_iff]

set_option maxRecDepth 20000 in
set_option maxHeartbeats 4000000 in
theorem round_int {w : World} {u : Value} {x : Rat} (hu : RatV w u x) (k : Int) (away : Bool) {j : Nat} (hs : RSz j x) (hj : j ≤ 200000000) (h1 : x.den = 1) :
    Calls Tryz.prog 86 #[u, .int .i64 k, .bool away] w fun e w' => ∃ r, e = .returned r ∧ RatV w' r (x) ∧ Kp w w' := by
  obtain ⟨a1, l1, c1, a2, l2, c2, rfl, m1, m2⟩ := hu.parts
  have HT := Lib.hid (One.new w (.bool (decide (x.num < 0))) (.slice a1 l1 c1) (.slice a2 l2 c2))
  have HU := Lib.hid hu
  have Hm1 := Lib.hid m1
  have Hm2 := Lib.hid m2
  have CW := Lib.hid (fun w' a (ha : RatV w' a x) => by have h := withSign_any (neg := decide (x.num < 0)) ha hs (by omega); rw [ratOf_back] at h; exact h)
  obtain ⟨p, hp⟩ : ∃ b, b = decide (x.num < 0) := ⟨_, rfl⟩
  try rw [← hp] at HT
  try rw [← hp] at HU
  try rw [← hp] at Hm1
  try rw [← hp] at Hm2
  try rw [← hp] at CW
  try rw [← hp]
  have HPp := Lib.hid hp
  clear hu m1 m2 hp
  obtain rfl := (m_len_zero' Hm2.out).2 (by unfold denOf; rw [if_pos h1])
  clear hs hj h1
  go_enter Tryz.func86, Tryz.ntmps86
  have KN := HT.out.k
  have U_e := Lib.hid (HU.out.kp KN)
  have m1_e := Lib.hid (Hm1.out.kp KN)
  have m2_e := Lib.hid (Hm2.out.kp KN)
  clear KN
  obtain ⟨g0, g1, g2, _⟩ := HT.out.ra.cells
  go_wp2_with (go_at_call 83; (with_reducible refine (CW.out _ _ U_e.out).mono ?_); rintro e w2 ⟨vr, rfl, hvr, k2⟩; refine Hid.out ?_)
  refine Lib.hid ?_
  have T_2 := Lib.hid (HT.out.kp k2)
  have U_2 := Lib.hid (U_e.out.kp k2)
  have m1_2 := Lib.hid (m1_e.out.kp k2)
  have m2_2 := Lib.hid (m2_e.out.kp k2)
  clear HT U_e m1_e m2_e
  clear k2
  obtain ⟨sgn, q1, r1, s1, q2, r2, s2, rfl⟩ := hvr.lit
  obtain ⟨⟨e0, e1, e2, f0, f1, f2⟩, HPP, HV, HKF⟩ := rat_ends T_2.out.rr T_2.out.k (Below.refl _ _) hvr (by omega)
  clear hvr
  obtain ⟨k0, k1, k2⟩ := HPP.out
  go_wp2
  exact bodyPost_ret (v := .agg #[.bool sgn, .slice q1 r1 s1, .slice q2 r2 s2]) (by simp [results, Tryz.results86, go_sem, k0, k1, k2]) rfl ⟨_, rfl, HV.out, HKF.out⟩

set_option maxRecDepth 20000 in
set_option maxHeartbeats 4000000 in
theorem round_frac {w : World} {u : Value} {x : Rat} (hu : RatV w u x) (k : Int) (away : Bool) {j : Nat} (hs : RSz j x) (hj : j ≤ 200000000) (h1 : x.den ≠ 1) (hT : Tz w) :
    Calls Tryz.prog 86 #[u, .int .i64 k, .bool away] w fun e w' => ∃ r, e = .returned r ∧ RatV w' r (ratOf (decide (x.num < 0)) (roundQ away x (scaleQ k)) (2 ^ scaleQ k)) ∧ Kp w w' := by
  obtain ⟨K, hK⟩ : ∃ K, K = scaleQ k := ⟨_, rfl⟩
  rw [← hK]
  have hK4 : K ≤ 4096 := by rw [hK]; exact scaleQ_le k
  have e1 : max 0 (min 4096 k) = (K : Int) := by rw [hK]; unfold scaleQ; omega
  have e2 : max (min 4096 k) 0 = (K : Int) := by rw [← e1]; omega
  have e3 : max (min k 4096) 0 = (K : Int) := by rw [← e1]; omega
  have e4 : max 0 (min k 4096) = (K : Int) := by rw [← e1]; omega
  have hdn : denOf x = x.den := by unfold denOf; rw [if_neg h1]
  have SN : Sz (j + 129) (x.num.natAbs * 2 ^ K) := hs.1.mul (szq_pow hK4)
  have SQ : Sz (j + 129) (x.num.natAbs * 2 ^ K / x.den) := SN.le (Nat.div_le_self _ _)
  have S1 : Sz 1 1 := length_toL_le 1 1 (by decide)
  have S2 : Sz 129 (2 ^ K) := szq_pow hK4
  have hp : 2 ^ K ≠ 0 := Nat.ne_of_gt (Nat.pow_pos (by decide))
  obtain ⟨a1, l1, c1, a2, l2, c2, rfl, m1, m2⟩ := hu.parts
  have HT := Lib.hid (One.new w (.bool (decide (x.num < 0))) (.slice a1 l1 c1) (.slice a2 l2 c2))
  have HU := Lib.hid hu
  have Hm1 := Lib.hid m1
  have Hm2 := Lib.hid m2
  have HZ := Lib.hid hT
  have CS1 := Lib.hid (fun w' v (a : M w' v x.num.natAbs) => shift_up a hs.1 (by omega) K (by omega))
  have CD := Lib.hid (fun w' va vb (a : M w' va (x.num.natAbs * 2 ^ K)) (b : M w' vb (denOf x)) (t : Tz w') => by rw [hdn] at b; exact div_m a b SN (by omega) x.den_nz t)
  have COF := Lib.hid (fun w' => of_m 1 w' (by omega))
  have CA := Lib.hid (fun w' va vb (a : M w' va (x.num.natAbs * 2 ^ K / x.den)) (b : M w' vb 1) => add_m a b SQ S1 (by omega) (by omega))
  have CS2 := Lib.hid (fun w' v (a : M w' v 1) => by have h := shift_up a S1 (by omega) K (by omega); rw [Nat.one_mul] at h; exact h)
  have CL := Lib.hid (fun w' s va vb (q : Nat) (sq : Sz (j + 129 + 1 + 1) q) (a : M w' va q) (b : M w' vb (2 ^ K)) (t : Tz w') => lowest_any (neg := s) a b hp (by unfold Sz at sq; omega) (by unfold Sz at S2; omega) t)
  have SQ0 := Lib.hid (SQ.mono (show j + 129 ≤ j + 129 + 1 + 1 by omega))
  have SQ1 := Lib.hid (SQ.add S1)
  obtain ⟨p, hp⟩ : ∃ b, b = decide (x.num < 0) := ⟨_, rfl⟩
  try rw [← hp] at HT
  try rw [← hp] at HU
  try rw [← hp] at Hm1
  try rw [← hp] at Hm2
  try rw [← hp] at CS1
  try rw [← hp] at CD
  try rw [← hp] at COF
  try rw [← hp] at CA
  try rw [← hp] at CS2
  try rw [← hp] at CL
  try rw [← hp]
  have HPp := Lib.hid hp
  clear hu m1 m2 hp hT
  have hl2 : 0 < l2 := by have := m_len_zero' Hm2.out; rw [hdn] at this; have := x.den_nz; omega
  have hl2z : ((l2 : Int) == 0) = false := beq_eq_false_iff_ne.2 (by omega)
  rw [show ((1 : Nat) : Int) = 1 from rfl] at COF
  obtain ⟨RR, hRR⟩ : ∃ r, r = roundQ away x K := ⟨_, rfl⟩
  have HR0 := Lib.hid (fun h : away = false ∨ x.num.natAbs * 2 ^ K % x.den = 0 => (show RR = x.num.natAbs * 2 ^ K / x.den from by rw [hRR]; exact roundQ_zero h))
  have HR1 := Lib.hid (fun (h1 : away = true) (h : x.num.natAbs * 2 ^ K % x.den ≠ 0) => (show RR = x.num.natAbs * 2 ^ K / x.den + 1 from by rw [hRR, h1]; exact roundQ_one h))
  rw [← hRR]
  obtain ⟨rm, hrm⟩ : ∃ r, r = x.num.natAbs * 2 ^ K % x.den := ⟨_, rfl⟩
  rw [← hrm] at CD HR0 HR1
  obtain ⟨P, hP⟩ : ∃ P, P = 2 ^ K := ⟨_, rfl⟩
  rw [← hP] at CS1 CD CA CS2 CL HR0 HR1 SQ0 SQ1 ⊢
  clear hRR hrm hP SN SQ S1 S2 hp hdn hs hj h1 hK
  go_enter Tryz.func86, Tryz.ntmps86
  have KN := HT.out.k
  have U_e := Lib.hid (HU.out.kp KN)
  have m1_e := Lib.hid (Hm1.out.kp KN)
  have m2_e := Lib.hid (Hm2.out.kp KN)
  have Z_e := Lib.hid (HZ.out.kp KN)
  clear KN
  obtain ⟨g0, g1, g2, _⟩ := HT.out.ra.cells
  go_wp2_with (go_at_call 118; (with_reducible refine (CS1.out _ _ m1_e.out).mono ?_); rintro e w2 ⟨v1, rfl, n1, k2⟩; refine Hid.out ?_)
  refine Lib.hid ?_
  have T_2 := Lib.hid (HT.out.kp k2)
  have U_2 := Lib.hid (U_e.out.kp k2)
  have m1_2 := Lib.hid (m1_e.out.kp k2)
  have m2_2 := Lib.hid (m2_e.out.kp k2)
  have Z_2 := Lib.hid (Z_e.out.kp k2)
  clear HT U_e m1_e m2_e Z_e
  have N1_2 := Lib.hid n1
  clear n1 k2
  obtain ⟨g0, g1, g2, _⟩ := T_2.out.ra.cells
  go_wp2_with (go_at_call 119; (with_reducible refine (CD.out _ _ _ N1_2.out m2_2.out Z_2.out).mono ?_); rintro e w3 ⟨vq, vr, rfl, nq, nr, k3⟩; refine Hid.out ?_)
  refine Lib.hid ?_
  have T_3 := Lib.hid (T_2.out.kp k3)
  have U_3 := Lib.hid (U_2.out.kp k3)
  have m1_3 := Lib.hid (m1_2.out.kp k3)
  have m2_3 := Lib.hid (m2_2.out.kp k3)
  have Z_3 := Lib.hid (Z_2.out.kp k3)
  have N1_3 := Lib.hid (N1_2.out.kp k3)
  clear T_2 U_2 m1_2 m2_2 Z_2 N1_2
  have NQ_3 := Lib.hid nq
  have NR_3 := Lib.hid nr
  clear nq nr k3
  obtain ⟨g0, g1, g2, _⟩ := T_3.out.ra.cells
  obtain ⟨o8, l8, c8, rfl⟩ := m_slice NR_3.out
  have hl8 := m_len_zero' NR_3.out
  clear hK4 e1 e2 e3 e4
  go_upto_region 6 with fail
  obtain ⟨t0, ht0⟩ : ∃ t, t = (away && decide (0 < l8)) := ⟨_, rfl⟩
  have HT0 := Lib.hid ht0
  have HL8 := Lib.hid hl8
  clear ht0 hl8
  go_cut [45] (fun t wc => t = .bool t0 ∧ w3 = wc)
  case first =>
    cases away
    · obtain rfl : t0 = false := HT0.out
      go_wp2_with fail
      go_meet
      exact ⟨rfl, rfl⟩
    · by_cases hl9 : 0 < l8
      · obtain rfl : t0 = true := by rw [HT0.out, decide_eq_true hl9]; rfl
        go_wp2_with fail
        go_meet
        exact ⟨rfl, rfl⟩
      · obtain rfl : t0 = false := by rw [HT0.out, decide_eq_false hl9]; rfl
        obtain rfl : l8 = 0 := by omega
        go_wp2_with fail
        go_meet
        exact ⟨rfl, rfl⟩
  case rest =>
  obtain ⟨rfl, rfl⟩ := hcut
  cases t0
  · have HE := Lib.hid (HR0.out (by
      have h := HT0.out
      cases away
      · exact Or.inl rfl
      · right
        have h2 : ¬ 0 < l8 := by
          intro e
          rw [decide_eq_true e] at h
          cases h
        exact HL8.out.1 (by omega)))
    clear HT0 HL8 HR0 HR1
    go_wp2_with (go_at_call 121; (with_reducible refine (COF.out _).mono ?_); rintro e w4 ⟨vo2, rfl, no2, k4⟩; refine Hid.out ?_)
    refine Lib.hid ?_
    have T_4 := Lib.hid (T_3.out.kp k4)
    have U_4 := Lib.hid (U_3.out.kp k4)
    have m1_4 := Lib.hid (m1_3.out.kp k4)
    have m2_4 := Lib.hid (m2_3.out.kp k4)
    have Z_4 := Lib.hid (Z_3.out.kp k4)
    have N1_4 := Lib.hid (N1_3.out.kp k4)
    have NQ_4 := Lib.hid (NQ_3.out.kp k4)
    have NR_4 := Lib.hid (NR_3.out.kp k4)
    clear T_3 U_3 m1_3 m2_3 Z_3 N1_3 NQ_3 NR_3
    have NO2_4 := Lib.hid no2
    clear no2 k4
    obtain ⟨g0, g1, g2, _⟩ := T_4.out.ra.cells
    go_wp2_with (go_at_call 118; (with_reducible refine (CS2.out _ _ NO2_4.out).mono ?_); rintro e w5 ⟨vp, rfl, np, k5⟩; refine Hid.out ?_)
    refine Lib.hid ?_
    have T_5 := Lib.hid (T_4.out.kp k5)
    have U_5 := Lib.hid (U_4.out.kp k5)
    have m1_5 := Lib.hid (m1_4.out.kp k5)
    have m2_5 := Lib.hid (m2_4.out.kp k5)
    have Z_5 := Lib.hid (Z_4.out.kp k5)
    have N1_5 := Lib.hid (N1_4.out.kp k5)
    have NQ_5 := Lib.hid (NQ_4.out.kp k5)
    have NR_5 := Lib.hid (NR_4.out.kp k5)
    have NO2_5 := Lib.hid (NO2_4.out.kp k5)
    clear T_4 U_4 m1_4 m2_4 Z_4 N1_4 NQ_4 NR_4 NO2_4
    have NP_5 := Lib.hid np
    clear np k5
    obtain ⟨g0, g1, g2, _⟩ := T_5.out.ra.cells
    go_wp2_with (go_at_call 62; (with_reducible refine (CL.out _ _ _ _ _ SQ0.out NQ_5.out NP_5.out Z_5.out).mono ?_); rintro e w6 ⟨vr, rfl, hvr, k6⟩; refine Hid.out ?_)
    refine Lib.hid ?_
    have T_6 := Lib.hid (T_5.out.kp k6)
    have U_6 := Lib.hid (U_5.out.kp k6)
    have m1_6 := Lib.hid (m1_5.out.kp k6)
    have m2_6 := Lib.hid (m2_5.out.kp k6)
    have Z_6 := Lib.hid (Z_5.out.kp k6)
    have N1_6 := Lib.hid (N1_5.out.kp k6)
    have NQ_6 := Lib.hid (NQ_5.out.kp k6)
    have NR_6 := Lib.hid (NR_5.out.kp k6)
    have NO2_6 := Lib.hid (NO2_5.out.kp k6)
    have NP_6 := Lib.hid (NP_5.out.kp k6)
    clear T_5 U_5 m1_5 m2_5 Z_5 N1_5 NQ_5 NR_5 NO2_5 NP_5
    clear k6
    obtain ⟨sgn, q1, r1, s1, q2, r2, s2, rfl⟩ := hvr.lit
    obtain ⟨⟨e0, e1, e2, f0, f1, f2⟩, HPP, HV, HKF⟩ := rat_ends T_6.out.rr T_6.out.k (Below.refl _ _) hvr (by omega)
    clear hvr
    obtain ⟨k0, k1, k2⟩ := HPP.out
    go_wp2
    exact bodyPost_ret (v := .agg #[.bool sgn, .slice q1 r1 s1, .slice q2 r2 s2]) (by simp [results, Tryz.results86, go_sem, k0, k1, k2]) rfl ⟨_, rfl, by rw [HE.out]; exact HV.out, HKF.out⟩
  · have HE := Lib.hid (HR1.out (by
      have h := HT0.out
      cases away
      · cases h
      · rfl) (by
      have h := HT0.out
      intro e
      rw [HL8.out.2 e] at h
      cases away <;> cases h))
    clear HT0 HL8 HR0 HR1
    go_wp2_with (go_at_call 121; (with_reducible refine (COF.out _).mono ?_); rintro e w4 ⟨vo, rfl, no, k4⟩; refine Hid.out ?_)
    refine Lib.hid ?_
    have T_4 := Lib.hid (T_3.out.kp k4)
    have U_4 := Lib.hid (U_3.out.kp k4)
    have m1_4 := Lib.hid (m1_3.out.kp k4)
    have m2_4 := Lib.hid (m2_3.out.kp k4)
    have Z_4 := Lib.hid (Z_3.out.kp k4)
    have N1_4 := Lib.hid (N1_3.out.kp k4)
    have NQ_4 := Lib.hid (NQ_3.out.kp k4)
    have NR_4 := Lib.hid (NR_3.out.kp k4)
    clear T_3 U_3 m1_3 m2_3 Z_3 N1_3 NQ_3 NR_3
    have NO_4 := Lib.hid no
    clear no k4
    obtain ⟨g0, g1, g2, _⟩ := T_4.out.ra.cells
    go_wp2_with (go_at_call 120; (with_reducible refine (CA.out _ _ _ NQ_4.out NO_4.out).mono ?_); rintro e w5 ⟨vs, rfl, ns, k5⟩; refine Hid.out ?_)
    refine Lib.hid ?_
    have T_5 := Lib.hid (T_4.out.kp k5)
    have U_5 := Lib.hid (U_4.out.kp k5)
    have m1_5 := Lib.hid (m1_4.out.kp k5)
    have m2_5 := Lib.hid (m2_4.out.kp k5)
    have Z_5 := Lib.hid (Z_4.out.kp k5)
    have N1_5 := Lib.hid (N1_4.out.kp k5)
    have NQ_5 := Lib.hid (NQ_4.out.kp k5)
    have NR_5 := Lib.hid (NR_4.out.kp k5)
    have NO_5 := Lib.hid (NO_4.out.kp k5)
    clear T_4 U_4 m1_4 m2_4 Z_4 N1_4 NQ_4 NR_4 NO_4
    have NS_5 := Lib.hid ns
    clear ns k5
    obtain ⟨g0, g1, g2, _⟩ := T_5.out.ra.cells
    go_wp2_with (go_at_call 121; (with_reducible refine (COF.out _).mono ?_); rintro e w6 ⟨vo2, rfl, no2, k6⟩; refine Hid.out ?_)
    refine Lib.hid ?_
    have T_6 := Lib.hid (T_5.out.kp k6)
    have U_6 := Lib.hid (U_5.out.kp k6)
    have m1_6 := Lib.hid (m1_5.out.kp k6)
    have m2_6 := Lib.hid (m2_5.out.kp k6)
    have Z_6 := Lib.hid (Z_5.out.kp k6)
    have N1_6 := Lib.hid (N1_5.out.kp k6)
    have NQ_6 := Lib.hid (NQ_5.out.kp k6)
    have NR_6 := Lib.hid (NR_5.out.kp k6)
    have NO_6 := Lib.hid (NO_5.out.kp k6)
    have NS_6 := Lib.hid (NS_5.out.kp k6)
    clear T_5 U_5 m1_5 m2_5 Z_5 N1_5 NQ_5 NR_5 NO_5 NS_5
    have NO2_6 := Lib.hid no2
    clear no2 k6
    obtain ⟨g0, g1, g2, _⟩ := T_6.out.ra.cells
    go_wp2_with (go_at_call 118; (with_reducible refine (CS2.out _ _ NO2_6.out).mono ?_); rintro e w7 ⟨vp, rfl, np, k7⟩; refine Hid.out ?_)
    refine Lib.hid ?_
    have T_7 := Lib.hid (T_6.out.kp k7)
    have U_7 := Lib.hid (U_6.out.kp k7)
    have m1_7 := Lib.hid (m1_6.out.kp k7)
    have m2_7 := Lib.hid (m2_6.out.kp k7)
    have Z_7 := Lib.hid (Z_6.out.kp k7)
    have N1_7 := Lib.hid (N1_6.out.kp k7)
    have NQ_7 := Lib.hid (NQ_6.out.kp k7)
    have NR_7 := Lib.hid (NR_6.out.kp k7)
    have NO_7 := Lib.hid (NO_6.out.kp k7)
    have NS_7 := Lib.hid (NS_6.out.kp k7)
    have NO2_7 := Lib.hid (NO2_6.out.kp k7)
    clear T_6 U_6 m1_6 m2_6 Z_6 N1_6 NQ_6 NR_6 NO_6 NS_6 NO2_6
    have NP_7 := Lib.hid np
    clear np k7
    obtain ⟨g0, g1, g2, _⟩ := T_7.out.ra.cells
    go_wp2_with (go_at_call 62; (with_reducible refine (CL.out _ _ _ _ _ SQ1.out NS_7.out NP_7.out Z_7.out).mono ?_); rintro e w8 ⟨vr, rfl, hvr, k8⟩; refine Hid.out ?_)
    refine Lib.hid ?_
    have T_8 := Lib.hid (T_7.out.kp k8)
    have U_8 := Lib.hid (U_7.out.kp k8)
    have m1_8 := Lib.hid (m1_7.out.kp k8)
    have m2_8 := Lib.hid (m2_7.out.kp k8)
    have Z_8 := Lib.hid (Z_7.out.kp k8)
    have N1_8 := Lib.hid (N1_7.out.kp k8)
    have NQ_8 := Lib.hid (NQ_7.out.kp k8)
    have NR_8 := Lib.hid (NR_7.out.kp k8)
    have NO_8 := Lib.hid (NO_7.out.kp k8)
    have NS_8 := Lib.hid (NS_7.out.kp k8)
    have NO2_8 := Lib.hid (NO2_7.out.kp k8)
    have NP_8 := Lib.hid (NP_7.out.kp k8)
    clear T_7 U_7 m1_7 m2_7 Z_7 N1_7 NQ_7 NR_7 NO_7 NS_7 NO2_7 NP_7
    clear k8
    obtain ⟨sgn, q1, r1, s1, q2, r2, s2, rfl⟩ := hvr.lit
    obtain ⟨⟨e0, e1, e2, f0, f1, f2⟩, HPP, HV, HKF⟩ := rat_ends T_8.out.rr T_8.out.k (Below.refl _ _) hvr (by omega)
    clear hvr
    obtain ⟨k0, k1, k2⟩ := HPP.out
    go_wp2
    exact bodyPost_ret (v := .agg #[.bool sgn, .slice q1 r1 s1, .slice q2 r2 s2]) (by simp [results, Tryz.results86, go_sem, k0, k1, k2]) rfl ⟨_, rfl, by rw [HE.out]; exact HV.out, HKF.out⟩

set_option maxRecDepth 20000 in
set_option maxHeartbeats 4000000 in
theorem qdown_any {w : World} {u : Value} {x : Rat} (hu : RatV w u x) (k : Int) {j : Nat} (hs : RSz j x) (hj : j ≤ 200000000) (hT : Tz w) :
    Calls Tryz.prog 50 #[u, .int .i64 k] w fun e w' => ∃ r, e = .returned r ∧ RatV w' r (downR x (scaleQ k)) ∧ Kp w w' := by
  obtain ⟨a1, l1, c1, a2, l2, c2, rfl, m1, m2⟩ := hu.parts
  have HT := Lib.hid (One.new w (.bool (decide (x.num < 0))) (.slice a1 l1 c1) (.slice a2 l2 c2))
  have HU := Lib.hid hu
  have HZ := Lib.hid hT
  have CR := Lib.hid (fun w' a (ha : RatV w' a x) (t : Tz w') => (show Calls Tryz.prog 86 #[a, .int .i64 k, .bool (decide (x.num < 0))] w' fun e w2 => ∃ r, e = .returned r ∧ RatV w2 r (downR x (scaleQ k)) ∧ Kp w' w2 from by
    by_cases h1 : x.den = 1
    · rw [downR_int h1]; exact round_int ha k _ hs hj h1
    · rw [← round_down]; exact round_frac ha k _ hs hj h1 t))
  obtain ⟨p, hp⟩ : ∃ b, b = decide (x.num < 0) := ⟨_, rfl⟩
  try rw [← hp] at HT
  try rw [← hp] at HU
  try rw [← hp] at CR
  try rw [← hp]
  have HPp := Lib.hid hp
  clear hu m1 m2 hp hT
  clear hs hj
  go_enter Tryz.func50, Tryz.ntmps50
  have KN := HT.out.k
  have U_e := Lib.hid (HU.out.kp KN)
  have Z_e := Lib.hid (HZ.out.kp KN)
  clear KN
  obtain ⟨g0, g1, g2, _⟩ := HT.out.ra.cells
  go_wp2_with (go_at_call 86; (with_reducible refine (CR.out _ _ U_e.out Z_e.out).mono ?_); rintro e w2 ⟨vr, rfl, hvr, k2⟩; refine Hid.out ?_)
  refine Lib.hid ?_
  have T_2 := Lib.hid (HT.out.kp k2)
  have U_2 := Lib.hid (U_e.out.kp k2)
  have Z_2 := Lib.hid (Z_e.out.kp k2)
  clear HT U_e Z_e
  clear k2
  obtain ⟨sgn, q1, r1, s1, q2, r2, s2, rfl⟩ := hvr.lit
  obtain ⟨⟨e0, e1, e2, f0, f1, f2⟩, HPP, HV, HKF⟩ := rat_ends T_2.out.rr T_2.out.k (Below.refl _ _) hvr (by omega)
  clear hvr
  obtain ⟨k0, k1, k2⟩ := HPP.out
  go_wp2
  exact bodyPost_ret (v := .agg #[.bool sgn, .slice q1 r1 s1, .slice q2 r2 s2]) (by simp [results, Tryz.results50, go_sem, k0, k1, k2]) rfl ⟨_, rfl, HV.out, HKF.out⟩

set_option maxRecDepth 20000 in
set_option maxHeartbeats 4000000 in
theorem qup_any {w : World} {u : Value} {x : Rat} (hu : RatV w u x) (k : Int) {j : Nat} (hs : RSz j x) (hj : j ≤ 200000000) (hT : Tz w) :
    Calls Tryz.prog 52 #[u, .int .i64 k] w fun e w' => ∃ r, e = .returned r ∧ RatV w' r (upR x (scaleQ k)) ∧ Kp w w' := by
  obtain ⟨a1, l1, c1, a2, l2, c2, rfl, m1, m2⟩ := hu.parts
  have HT := Lib.hid (One.new w (.bool (decide (x.num < 0))) (.slice a1 l1 c1) (.slice a2 l2 c2))
  have HU := Lib.hid hu
  have HZ := Lib.hid hT
  have CR := Lib.hid (fun w' a (ha : RatV w' a x) (t : Tz w') => (show Calls Tryz.prog 86 #[a, .int .i64 k, .bool (!decide (x.num < 0))] w' fun e w2 => ∃ r, e = .returned r ∧ RatV w2 r (upR x (scaleQ k)) ∧ Kp w' w2 from by
    by_cases h1 : x.den = 1
    · rw [upR_int h1]; exact round_int ha k _ hs hj h1
    · rw [← round_up]; exact round_frac ha k _ hs hj h1 t))
  obtain ⟨p, hp⟩ : ∃ b, b = decide (x.num < 0) := ⟨_, rfl⟩
  try rw [← hp] at HT
  try rw [← hp] at HU
  try rw [← hp] at CR
  try rw [← hp]
  have HPp := Lib.hid hp
  clear hu m1 m2 hp hT
  clear hs hj
  go_enter Tryz.func52, Tryz.ntmps52
  have KN := HT.out.k
  have U_e := Lib.hid (HU.out.kp KN)
  have Z_e := Lib.hid (HZ.out.kp KN)
  clear KN
  obtain ⟨g0, g1, g2, _⟩ := HT.out.ra.cells
  go_wp2_with (go_at_call 86; (with_reducible refine (CR.out _ _ U_e.out Z_e.out).mono ?_); rintro e w2 ⟨vr, rfl, hvr, k2⟩; refine Hid.out ?_)
  refine Lib.hid ?_
  have T_2 := Lib.hid (HT.out.kp k2)
  have U_2 := Lib.hid (U_e.out.kp k2)
  have Z_2 := Lib.hid (Z_e.out.kp k2)
  clear HT U_e Z_e
  clear k2
  obtain ⟨sgn, q1, r1, s1, q2, r2, s2, rfl⟩ := hvr.lit
  obtain ⟨⟨e0, e1, e2, f0, f1, f2⟩, HPP, HV, HKF⟩ := rat_ends T_2.out.rr T_2.out.k (Below.refl _ _) hvr (by omega)
  clear hvr
  obtain ⟨k0, k1, k2⟩ := HPP.out
  go_wp2
  exact bodyPost_ret (v := .agg #[.bool sgn, .slice q1 r1 s1, .slice q2 r2 s2]) (by simp [results, Tryz.results52, go_sem, k0, k1, k2]) rfl ⟨_, rfl, HV.out, HKF.out⟩

set_option maxRecDepth 20000 in
set_option maxHeartbeats 4000000 in
theorem qfloor_any {w : World} {u : Value} {x : Rat} (hu : RatV w u x) {j : Nat} (hs : RSz j x) (hj : j ≤ 200000000) (hT : Tz w) :
    Calls Tryz.prog 48 #[u] w fun e w' => ∃ r, e = .returned r ∧ RatV w' r ((x.floor : Rat)) ∧ Kp w w' := by
  obtain ⟨a1, l1, c1, a2, l2, c2, rfl, m1, m2⟩ := hu.parts
  have HT := Lib.hid (One.new w (.bool (decide (x.num < 0))) (.slice a1 l1 c1) (.slice a2 l2 c2))
  have HU := Lib.hid hu
  have HZ := Lib.hid hT
  have CR := Lib.hid (fun w' a (ha : RatV w' a x) (t : Tz w') => by have h := qdown_any ha 0 hs hj t; rw [show scaleQ 0 = 0 from rfl, downR_floor, show (2 ^ 0 : Nat) = 1 from rfl, show ((1 : Nat) : Rat) = 1 from rfl, Rat.mul_one, Rat.div_def, show (1 : Rat)⁻¹ = 1 from Rat.inv_eq_of_mul_eq_one (Rat.mul_one 1), Rat.mul_one] at h; exact h)
  obtain ⟨p, hp⟩ : ∃ b, b = decide (x.num < 0) := ⟨_, rfl⟩
  try rw [← hp] at HT
  try rw [← hp] at HU
  try rw [← hp] at CR
  try rw [← hp]
  have HPp := Lib.hid hp
  clear hu m1 m2 hp hT
  clear hs hj
  go_enter Tryz.func48, Tryz.ntmps48
  have KN := HT.out.k
  have U_e := Lib.hid (HU.out.kp KN)
  have Z_e := Lib.hid (HZ.out.kp KN)
  clear KN
  obtain ⟨g0, g1, g2, _⟩ := HT.out.ra.cells
  go_wp2_with (go_at_call 50; (with_reducible refine (CR.out _ _ U_e.out Z_e.out).mono ?_); rintro e w2 ⟨vr, rfl, hvr, k2⟩; refine Hid.out ?_)
  refine Lib.hid ?_
  have T_2 := Lib.hid (HT.out.kp k2)
  have U_2 := Lib.hid (U_e.out.kp k2)
  have Z_2 := Lib.hid (Z_e.out.kp k2)
  clear HT U_e Z_e
  clear k2
  obtain ⟨sgn, q1, r1, s1, q2, r2, s2, rfl⟩ := hvr.lit
  obtain ⟨⟨e0, e1, e2, f0, f1, f2⟩, HPP, HV, HKF⟩ := rat_ends T_2.out.rr T_2.out.k (Below.refl _ _) hvr (by omega)
  clear hvr
  obtain ⟨k0, k1, k2⟩ := HPP.out
  go_wp2
  exact bodyPost_ret (v := .agg #[.bool sgn, .slice q1 r1 s1, .slice q2 r2 s2]) (by simp [results, Tryz.results48, go_sem, k0, k1, k2]) rfl ⟨_, rfl, HV.out, HKF.out⟩
end Go.Proofs.YtmnnnoeenfmckaaGreatDoor

/-
  rational.tenTo: by walking its text.
-/
namespace Go.Proofs.YtmnnnoeenfmckaaGreatDoor
open Go.RowKit

/-- The block of a notation. -/
def Ntb (w : World) (g : Nat) (a b c d : Value) : Prop := w.heap[g]? = some (.cells #[a, b, c, d] 77 (0, 0))
theorem Ntb.kp {w w' : World} {g : Nat} {a b c d : Value} (h : Ntb w g a b c d) (k : Kp w w') : Ntb w' g a b c d := by
  unfold Ntb
  rw [k.block g (Array.getElem?_eq_some_iff.1 h).1]
  exact h
theorem Ntb.new (w : World) (a b c d : Value) : Ntb (w.alloc (Obj.cells #[a, b, c, d] 77)) w.heap.size a b c d := heap_alloc_new w _
theorem Ntb.cells {w : World} {g : Nat} {a b c d : Value} (h : Ntb w g a b c d) : w.cell? ⟨g, 0, none⟩ = some a ∧ w.cell? ⟨g, 1, none⟩ = some b ∧ w.cell? ⟨g, 2, none⟩ = some c ∧ w.cell? ⟨g, 3, none⟩ = some d :=
  ⟨cell_of_row w g 0 _ _ _ h, cell_of_row w g 1 _ _ _ h, cell_of_row w g 2 _ _ _ h, cell_of_row w g 3 _ _ _ h⟩
structure Nt1 (w wc : World) (a b c d : Value) : Prop where
  k : Kp w wc
  ra : Ntb wc w.heap.size a b c d
  rr : Res wc (w.heap.size + 1) (.bool false) (.slice none 0 0) (.slice none 0 0)
theorem Nt1.kp {w wc w' : World} {a b c d : Value} (h : Nt1 w wc a b c d) (k : Kp wc w') : Nt1 w w' a b c d := ⟨h.k.tr k, h.ra.kp k, h.rr.kp k⟩
theorem Nt1.new (w : World) (a b c d : Value) : Nt1 w ((w.alloc (.cells #[a, b, c, d] 77)).alloc (.cells #[.bool false, .slice none 0 0, .slice none 0 0] 27)) a b c d := by
  have h1 := Res.new (w.alloc (.cells #[a, b, c, d] 77)) (.bool false) (.slice none 0 0) (.slice none 0 0)
  rw [World.size_alloc] at h1
  exact ⟨(Kp.alloc w _).tr (Kp.alloc _ _), (Ntb.new w a b c d).kp (Kp.alloc _ _), h1⟩

theorem five_sz {n : Nat} (h : 0 < n) : Sz n (5 ^ n) := by
  refine length_toL_le _ n ?_
  exact Nat.pow_lt_pow_left (by decide) (by omega)

def Tens (w0 wr : World) (n r : Nat) (va vb : Value) : Prop := ∃ a b : Nat, M wr va a ∧ M wr vb b ∧ b * a ^ r = 5 ^ n ∧ Kp w0 wr

theorem tens_le {a b r n : Nat} (h : b * a ^ r = 5 ^ n) (hr : r ≠ 0) : a ≤ 5 ^ n ∧ b ≤ 5 ^ n ∧ a ≠ 0 := by
  have h5 : 0 < 5 ^ n := Nat.pow_pos (by decide)
  have ha : a ≠ 0 := by
    rintro rfl
    rw [Nat.zero_pow (by omega), Nat.mul_zero] at h
    omega
  have hb : b ≠ 0 := by
    rintro rfl
    rw [Nat.zero_mul] at h
    omega
  have hp : a ≤ a ^ r := by
    have := Nat.pow_le_pow_right (Nat.pos_of_ne_zero ha) (show 1 ≤ r by omega)
    rwa [Nat.pow_one] at this
  refine ⟨?_, ?_, ha⟩
  · rw [← h]; exact Nat.le_trans hp (Nat.le_mul_of_pos_left _ (Nat.pos_of_ne_zero hb))
  · rw [← h]; exact Nat.le_mul_of_pos_right _ (Nat.pow_pos (Nat.pos_of_ne_zero ha))

theorem tens_odd {a b r n : Nat} (h : b * a ^ r = 5 ^ n) (ho : r % 2 = 1) : b * a * (a * a) ^ (r / 2) = 5 ^ n := by
  rw [← h, Nat.mul_assoc, ← Nat.pow_two, ← Nat.pow_mul, Nat.mul_comm a, ← Nat.pow_succ]
  congr 2
  omega
theorem tens_even {a b r n : Nat} (h : b * a ^ r = 5 ^ n) (ho : r % 2 = 0) : b * (a * a) ^ (r / 2) = 5 ^ n := by
  rw [← h, ← Nat.pow_two, ← Nat.pow_mul]
  congr 2
  omega

set_option maxRecDepth 20000 in
set_option maxHeartbeats 2000000 in
theorem tenTo_any (n : Nat) (w : World) (hn : n ≤ 16384) :
    Calls Tryz.prog 129 #[.int .i64 (n : Nat)] w fun e w' => ∃ v, e = .returned v ∧ M w' v (10 ^ n) ∧ Kp w w' := by
  have H5 := Lib.hid (fun w' => of_m 5 w' (by omega))
  have H1 := Lib.hid (fun w' => of_m 1 w' (by omega))
  rw [show ((5 : Nat) : Int) = 5 from rfl] at H5
  rw [show ((1 : Nat) : Int) = 1 from rfl] at H1
  have HN := Lib.hid hn
  have hn9 : (n : Int) ≤ 16384 := by omega
  have HEND := Lib.hid (show 5 ^ n * 2 ^ n = 10 ^ n by rw [← Nat.mul_pow])
  have HPOW := Lib.hid (show 1 * 5 ^ n = 5 ^ n from Nat.one_mul _)
  clear hn
  go_enter Tryz.func129, Tryz.ntmps129
  go_wp2_with (go_at_call 121; (with_reducible refine (H5.out _).mono ?_); rintro e w1 ⟨v5, rfl, m5, K1⟩; refine Hid.out ?_)
  refine Lib.hid ?_
  have M5 := Lib.hid m5
  clear m5
  go_wp2_with (go_at_call 121; (with_reducible refine (H1.out _).mono ?_); rintro e w2 ⟨v1, rfl, m1, K2⟩; refine Hid.out ?_)
  refine Lib.hid ?_
  have HST : Hid (Tens w w2 n n v5 v1) := Lib.hid ⟨5, 1, M5.out.kp K2, m1, HPOW.out, K1.tr K2⟩
  clear m1 K1 K2
  go_wp2_with fail
  go_loopg [3, 4, 5] n (fun k av bv iv wr => ∃ va vb : Value, va = av ∧ vb = bv ∧ iv = .int .i64 k ∧ k ≤ n ∧ Hid (Tens w wr n k va vb))
  case atStart => exact ⟨_, _, rfl, rfl, rfl, Nat.le_refl _, HST⟩
  case round =>
    obtain ⟨va, vb, rfl, rfl, rfl, hkn, HREL⟩ := hrel
    obtain ⟨A, B, mA, mB, hp, K3⟩ := HREL.out
    have HMA := Lib.hid mA
    have HMB := Lib.hid mB
    have HPW := Lib.hid hp
    have HK3 := Lib.hid K3
    clear HREL mA mB hp K3
    by_cases hk : gk = 0
    · subst hk
      have hB : B = 5 ^ n := by have := HPW.out; rwa [Nat.pow_zero, Nat.mul_one] at this
      have HS := Lib.hid (shift_up HMB.out (k := n + 1) (by rw [hB]; by_cases h0 : n = 0; · subst h0; exact length_toL_le _ 1 (by decide)
                                                            · exact (five_sz (Nat.pos_of_ne_zero h0)).mono (by omega)) (by have := HN.out; omega) n HN.out)
      rw [hB, HEND.out] at HS
      clear hB
      go_wp2_with (go_at_call 118; (with_reducible refine HS.out.mono ?_); rintro e w4 ⟨v4, rfl, m4, K4⟩; refine Hid.out ?_)
      refine Lib.hid ?_
      go_wp2
      go_ret
      exact ⟨_, rfl, m4, HK3.out.tr K4⟩
    · obtain ⟨hA, hB, _⟩ := tens_le HPW.out hk
      have hn0 : 0 < n := by omega
      have SA : Sz n A := (five_sz hn0).le hA
      have SB : Sz n B := (five_sz hn0).le hB
      have hnn := HN.out
      have CAB := Lib.hid (fun w' (kk : Kp wr w') => mul_m (HMB.out.kp kk) (HMA.out.kp kk) SB SA (by omega) (by omega))
      have CAA := Lib.hid (fun w' (kk : Kp wr w') => mul_m (HMA.out.kp kk) (HMA.out.kp kk) SA SA (by omega) (by omega))
      have hkl : 0 < (gk : Int) := by omega
      obtain ⟨h2, hh2⟩ : ∃ h, h = gk / 2 := ⟨_, rfl⟩
      have hq : ((gk : Int)).tdiv 2 = (h2 : Int) := by rw [Int.tdiv_eq_ediv_of_nonneg (by omega)]; omega
      have hq2 : (gk : Int) / 2 = (h2 : Int) := by omega
      have hlt : h2 < gk := by omega
      have hle : h2 ≤ n := by omega
      clear hA hB SA SB hnn hn0
      rcases Nat.mod_two_eq_zero_or_one gk with ho | ho
      · have HNX := Lib.hid (tens_even HPW.out ho)
        rw [← hh2] at HNX
        have hmb : ((gk : Int) % 2 == 1) = false := beq_eq_false_iff_ne.2 (by omega)
        have hmt : ((gk : Int).tmod 2 == 1) = false := beq_eq_false_iff_ne.2 (by rw [Int.tmod_eq_emod_of_nonneg (by omega)]; omega)
        clear ho hh2
        have CAA1 := Lib.hid (CAA.out _ (Below.refl _ _))
        go_wp2_with (go_at_call 143; (with_reducible refine CAA1.out.mono ?_); rintro e w4 ⟨v4, rfl, m4, K4⟩; refine Hid.out ?_)
        refine Lib.hid ?_
        have HT : Hid (Tens w w4 n h2 v4 vb) := Lib.hid ⟨_, _, m4, HMB.out.kp K4, HNX.out, HK3.out.tr K4⟩
        clear m4 K4
        go_wp2_with fail
        go_roundg h2
        case measure => exact hlt
        case rel => exact ⟨_, _, rfl, rfl, by go_num, hle, HT⟩
      · have HNX := Lib.hid (tens_odd HPW.out ho)
        rw [← hh2] at HNX
        have hmb : ((gk : Int) % 2 == 1) = true := beq_iff_eq.2 (by omega)
        have hmt : ((gk : Int).tmod 2 == 1) = true := beq_iff_eq.2 (by rw [Int.tmod_eq_emod_of_nonneg (by omega)]; omega)
        clear ho hh2
        have CAB1 := Lib.hid (CAB.out _ (Below.refl _ _))
        go_wp2_with (go_at_call 143; (with_reducible refine CAB1.out.mono ?_); rintro e w3 ⟨v3, rfl, m3, K3⟩; refine Hid.out ?_)
        refine Lib.hid ?_
        have CAA1 := Lib.hid (CAA.out _ K3)
        have M3 := Lib.hid m3
        have HK5 := Lib.hid (HK3.out.tr K3)
        clear m3 K3
        go_wp2_with (go_at_call 143; (with_reducible refine CAA1.out.mono ?_); rintro e w4 ⟨v4, rfl, m4, K4⟩; refine Hid.out ?_)
        refine Lib.hid ?_
        have HT : Hid (Tens w w4 n h2 v4 v3) := Lib.hid ⟨_, _, m4, M3.out.kp K4, HNX.out, HK5.out.tr K4⟩
        clear m4 K4
        go_wp2_with fail
        go_roundg h2
        case measure => exact hlt
        case rel => exact ⟨_, _, rfl, rfl, by go_num, hle, HT⟩
end Go.Proofs.YtmnnnoeenfmckaaGreatDoor

/-
  rational.notation.number: by walking its text.
-/
namespace Go.Proofs.YtmnnnoeenfmckaaGreatDoor
open Go.RowKit

theorem parse_dig {w : World} {s : ByteArray} (hg : goodB s = true) (hs : s.size ≤ 4096) :
    Calls Tryz.prog 128 #[.string s] w fun e w' => ∃ v', e = .returned (.tuple #[v', .int .i64 0]) ∧ M w' v' (dval s.data.toList) ∧ Kp w w' := by
  have h := parse_any s w (by omega)
  unfold parseN at h
  rw [if_neg (by omega), if_pos hg] at h
  exact h
theorem dval_szk {l : List UInt8} (hd : digits l = true) : Sz l.length (dval l) :=
  length_toL_le _ _ (Nat.lt_of_lt_of_le (dval_lt hd) (Nat.pow_le_pow_left (by decide) _))
theorem ten_szk (n : Nat) : Sz (n + 1) (10 ^ n) :=
  length_toL_le _ _ (Nat.lt_of_le_of_lt (Nat.pow_le_pow_left (show 10 ≤ 4294967296 by decide) n) (Nat.pow_lt_pow_right (by decide) (by omega)))
theorem dval_sz {s : ByteArray} (hg : goodB s = true) (hs : s.size ≤ 4096) : Sz 4096 (dval s.data.toList) := by
  have hd : digits s.data.toList = true := by
    unfold goodB at hg
    rw [Bool.and_eq_true] at hg
    exact hg.1
  exact (dval_szk hd).mono hs
theorem ten_sz {n : Nat} (h : n ≤ 16384) : Sz 16385 (10 ^ n) := (ten_szk n).mono (by omega)

set_option maxRecDepth 20000 in
set_option maxHeartbeats 4000000 in
theorem number_zero {w : World} (p : Bool) (ds es : ByteArray) (pw : Int) (hg1 : goodB ds = true) (hs1 : ds.size ≤ 4096) (hg2 : goodB es = true) (hs2 : es.size ≤ 4096) (h0 : dval es.data.toList = 0) :
    Calls Tryz.prog 92 #[.agg #[.bool p, .string ds, .string es, .int .i64 pw]] w fun e w' => e = .returned (.tuple #[.agg #[.bool false, .slice none 0 0, .slice none 0 0], .int .i64 3]) ∧ Kp w w' := by
  have HT := Lib.hid (Nt1.new w (.bool p) (.string ds) (.string es) (.int .i64 pw))
  have SD := dval_sz hg1 hs1
  have SE := dval_sz hg2 hs2
  have C1 := Lib.hid (fun w' => parse_dig (w := w') hg1 hs1)
  have C2 := Lib.hid (fun w' => parse_dig (w := w') hg2 hs2)
  obtain ⟨D, hD⟩ : ∃ d, d = dval ds.data.toList := ⟨_, rfl⟩
  obtain ⟨E, hE⟩ : ∃ d, d = dval es.data.toList := ⟨_, rfl⟩
  rw [← hE] at C2
  rw [← hD] at C1
  rw [hE.trans h0] at C2
  clear h0 hD hE SD SE hg1 hg2 hs1 hs2
  go_enter Tryz.func92, Tryz.ntmps92
  obtain ⟨g0, g1, g2, g3⟩ := HT.out.ra.cells
  go_wp2_with (go_at_call 128; (with_reducible refine (C1.out _).mono ?_); rintro e w2 ⟨v1, rfl, n1, k2⟩; refine Hid.out ?_)
  refine Lib.hid ?_
  have T_2 := Lib.hid (HT.out.kp k2)
  clear HT
  have N1_2 := Lib.hid n1
  clear n1 k2
  obtain ⟨g0, g1, g2, g3⟩ := T_2.out.ra.cells
  go_wp2_with (go_at_call 128; (with_reducible refine (C2.out _).mono ?_); rintro e w3 ⟨v2, rfl, n2, k3⟩; refine Hid.out ?_)
  refine Lib.hid ?_
  have T_3 := Lib.hid (T_2.out.kp k3)
  have N1_3 := Lib.hid (N1_2.out.kp k3)
  clear T_2 N1_2
  have N2_3 := Lib.hid n2
  clear n2 k3
  obtain ⟨g0, g1, g2, g3⟩ := T_3.out.ra.cells
  obtain ⟨o9, l9, c9, rfl⟩ := m_slice N2_3.out
  have hl9 := m_len_zero' N2_3.out
  obtain rfl := hl9.2 rfl
  clear hl9
  obtain ⟨d0, d1, d2, f0, f1, f2⟩ := T_3.out.rr.cells
  have HPP := Lib.hid (T_3.out.rr.put (.bool false) (.slice none 0 0) (.slice none 0 0)).cells
  unfold stored at HPP
  go_wp2
  obtain ⟨k0, k1, k2, _⟩ := HPP.out
  exact bodyPost_ret (v := .tuple #[.agg #[.bool false, .slice none 0 0, .slice none 0 0], .int .i64 3]) (by simp [results, Tryz.results92, go_sem, k0, k1, k2]) rfl ⟨rfl, T_3.out.k.put3 (by omega) _ _ _⟩

set_option maxRecDepth 20000 in
set_option maxHeartbeats 4000000 in
theorem number_neg {w : World} (p : Bool) (ds es : ByteArray) (pw : Int) (hg1 : goodB ds = true) (hs1 : ds.size ≤ 4096) (hg2 : goodB es = true) (hs2 : es.size ≤ 4096) (h0 : dval es.data.toList ≠ 0) (n : Nat) (hn : n ≤ 16384) (hp : pw = -(n : Int)) (hn0 : 0 < n) (hT : Tz w) :
    Calls Tryz.prog 92 #[.agg #[.bool p, .string ds, .string es, .int .i64 pw]] w fun e w' => ∃ r, e = .returned (.tuple #[r, .int .i64 0]) ∧ RatV w' r (ratOf p (dval ds.data.toList) (dval es.data.toList * 10 ^ n)) ∧ Kp w w' := by
  have HT := Lib.hid (Nt1.new w (.bool p) (.string ds) (.string es) (.int .i64 pw))
  have SD := dval_sz hg1 hs1
  have SE := dval_sz hg2 hs2
  have C1 := Lib.hid (fun w' => parse_dig (w := w') hg1 hs1)
  have C2 := Lib.hid (fun w' => parse_dig (w := w') hg2 hs2)
  have HZ := Lib.hid hT
  have C3 := Lib.hid (fun w' => tenTo_any n w' hn)
  have ST := ten_sz hn
  have C4 := Lib.hid (fun w' va vb (a : M w' va (dval es.data.toList)) (b : M w' vb (10 ^ n)) => times_any a b SE ST (by omega) (by omega))
  have SP : Sz (4096 + 16385) (dval es.data.toList * 10 ^ n) := SE.mul ST
  have hd0 : dval es.data.toList * 10 ^ n ≠ 0 := Nat.mul_ne_zero h0 (Nat.ne_of_gt (Nat.pow_pos (by decide)))
  have C5 := Lib.hid (fun w' va vb (a : M w' va (dval ds.data.toList)) (b : M w' vb (dval es.data.toList * 10 ^ n)) (t : Tz w') => lowest_any (neg := p) a b hd0 (by unfold Sz at SD; omega) (by unfold Sz at SP; omega) t)
  have H0 := Lib.hid h0
  obtain ⟨T9, hT9⟩ : ∃ t, t = 10 ^ n := ⟨_, rfl⟩
  rw [← hT9] at C3 C4 C5 ⊢
  obtain ⟨D, hD⟩ : ∃ d, d = dval ds.data.toList := ⟨_, rfl⟩
  obtain ⟨E, hE⟩ : ∃ d, d = dval es.data.toList := ⟨_, rfl⟩
  rw [← hE] at C2
  rw [← hD] at C1
  rw [← hE] at H0 C5 C4 ⊢
  rw [← hD] at C5 ⊢
  clear hT9 hD hE SD SE ST SP hd0 h0 hg1 hg2 hs1 hs2 hT
  have hlt : decide (pw < 0) = true := decide_eq_true (by omega)
  have hng : -pw = (n : Int) := by omega
  have hw : IntKind.i64.wrap (-pw) = (n : Int) := by rw [hng]; exact IntWalk.i64_in _ (by omega)
  have hw3 : wrap64 (n : Int) = (n : Int) := by unfold wrap64; omega
  clear hp hn hn0
  go_enter Tryz.func92, Tryz.ntmps92
  have Z_e := Lib.hid (HZ.out.kp HT.out.k)
  obtain ⟨g0, g1, g2, g3⟩ := HT.out.ra.cells
  go_wp2_with (go_at_call 128; (with_reducible refine (C1.out _).mono ?_); rintro e w2 ⟨v1, rfl, n1, k2⟩; refine Hid.out ?_)
  refine Lib.hid ?_
  have T_2 := Lib.hid (HT.out.kp k2)
  have Z_2 := Lib.hid (Z_e.out.kp k2)
  clear HT Z_e
  have N1_2 := Lib.hid n1
  clear n1 k2
  obtain ⟨g0, g1, g2, g3⟩ := T_2.out.ra.cells
  go_wp2_with (go_at_call 128; (with_reducible refine (C2.out _).mono ?_); rintro e w3 ⟨v2, rfl, n2, k3⟩; refine Hid.out ?_)
  refine Lib.hid ?_
  have T_3 := Lib.hid (T_2.out.kp k3)
  have Z_3 := Lib.hid (Z_2.out.kp k3)
  have N1_3 := Lib.hid (N1_2.out.kp k3)
  clear T_2 Z_2 N1_2
  have N2_3 := Lib.hid n2
  clear n2 k3
  obtain ⟨g0, g1, g2, g3⟩ := T_3.out.ra.cells
  obtain ⟨o9, l9, c9, rfl⟩ := m_slice N2_3.out
  have hl9 := m_len_zero' N2_3.out
  have hl90 : 0 < l9 := by have := H0.out; omega
  have hlz : ((l9 : Int) == 0) = false := beq_eq_false_iff_ne.2 (by omega)
  clear hl9
  go_wp2_with (go_at_call 129; (with_reducible refine (C3.out _).mono ?_); rintro e w4 ⟨v3, rfl, n3, k4⟩; refine Hid.out ?_)
  refine Lib.hid ?_
  have T_4 := Lib.hid (T_3.out.kp k4)
  have Z_4 := Lib.hid (Z_3.out.kp k4)
  have N1_4 := Lib.hid (N1_3.out.kp k4)
  have N2_4 := Lib.hid (N2_3.out.kp k4)
  clear T_3 Z_3 N1_3 N2_3
  have N3_4 := Lib.hid n3
  clear n3 k4
  obtain ⟨g0, g1, g2, g3⟩ := T_4.out.ra.cells
  go_wp2_with (go_at_call 107; (with_reducible refine (C4.out _ _ _ N2_4.out N3_4.out).mono ?_); rintro e w5 ⟨v4, rfl, n4, k5⟩; refine Hid.out ?_)
  refine Lib.hid ?_
  have T_5 := Lib.hid (T_4.out.kp k5)
  have Z_5 := Lib.hid (Z_4.out.kp k5)
  have N1_5 := Lib.hid (N1_4.out.kp k5)
  have N2_5 := Lib.hid (N2_4.out.kp k5)
  have N3_5 := Lib.hid (N3_4.out.kp k5)
  clear T_4 Z_4 N1_4 N2_4 N3_4
  have N4_5 := Lib.hid n4
  clear n4 k5
  obtain ⟨g0, g1, g2, g3⟩ := T_5.out.ra.cells
  go_wp2_with (go_at_call 62; (with_reducible refine (C5.out _ _ _ N1_5.out N4_5.out Z_5.out).mono ?_); rintro e w6 ⟨vr, rfl, hvr, k6⟩; refine Hid.out ?_)
  refine Lib.hid ?_
  have T_6 := Lib.hid (T_5.out.kp k6)
  have Z_6 := Lib.hid (Z_5.out.kp k6)
  have N1_6 := Lib.hid (N1_5.out.kp k6)
  have N2_6 := Lib.hid (N2_5.out.kp k6)
  have N3_6 := Lib.hid (N3_5.out.kp k6)
  have N4_6 := Lib.hid (N4_5.out.kp k6)
  clear T_5 Z_5 N1_5 N2_5 N3_5 N4_5
  clear k6
  obtain ⟨sgn, q1, r1, s1, q2, r2, s2, rfl⟩ := hvr.lit
  obtain ⟨⟨e0, e1, e2, f0, f1, f2⟩, HPP, HV, HKF⟩ := rat_ends T_6.out.rr T_6.out.k (Below.refl _ _) hvr (by omega)
  clear hvr
  obtain ⟨k0, k1, k2⟩ := HPP.out
  go_wp2
  exact bodyPost_ret (v := .tuple #[.agg #[.bool sgn, .slice q1 r1 s1, .slice q2 r2 s2], .int .i64 0]) (by simp [results, Tryz.results92, go_sem, k0, k1, k2]) rfl ⟨_, rfl, HV.out, HKF.out⟩

set_option maxRecDepth 20000 in
set_option maxHeartbeats 4000000 in
theorem number_pos {w : World} (p : Bool) (ds es : ByteArray) (pw : Int) (hg1 : goodB ds = true) (hs1 : ds.size ≤ 4096) (hg2 : goodB es = true) (hs2 : es.size ≤ 4096) (h0 : dval es.data.toList ≠ 0) (n : Nat) (hn : n ≤ 16384) (hp : pw = (n : Int)) (hT : Tz w) :
    Calls Tryz.prog 92 #[.agg #[.bool p, .string ds, .string es, .int .i64 pw]] w fun e w' => ∃ r, e = .returned (.tuple #[r, .int .i64 0]) ∧ RatV w' r (ratOf p (dval ds.data.toList * 10 ^ n) (dval es.data.toList)) ∧ Kp w w' := by
  have HT := Lib.hid (Nt1.new w (.bool p) (.string ds) (.string es) (.int .i64 pw))
  have SD := dval_sz hg1 hs1
  have SE := dval_sz hg2 hs2
  have C1 := Lib.hid (fun w' => parse_dig (w := w') hg1 hs1)
  have C2 := Lib.hid (fun w' => parse_dig (w := w') hg2 hs2)
  have HZ := Lib.hid hT
  have C3 := Lib.hid (fun w' => tenTo_any n w' hn)
  have ST := ten_sz hn
  have C4 := Lib.hid (fun w' va vb (a : M w' va (dval ds.data.toList)) (b : M w' vb (10 ^ n)) => times_any a b SD ST (by omega) (by omega))
  have SP : Sz (4096 + 16385) (dval ds.data.toList * 10 ^ n) := SD.mul ST
  have C5 := Lib.hid (fun w' va vb (a : M w' va (dval ds.data.toList * 10 ^ n)) (b : M w' vb (dval es.data.toList)) (t : Tz w') => lowest_any (neg := p) a b h0 (by unfold Sz at SP; omega) (by unfold Sz at SE; omega) t)
  have hd0 := h0
  have H0 := Lib.hid h0
  obtain ⟨T9, hT9⟩ : ∃ t, t = 10 ^ n := ⟨_, rfl⟩
  rw [← hT9] at C3 C4 C5 ⊢
  obtain ⟨D, hD⟩ : ∃ d, d = dval ds.data.toList := ⟨_, rfl⟩
  obtain ⟨E, hE⟩ : ∃ d, d = dval es.data.toList := ⟨_, rfl⟩
  rw [← hE] at C2
  rw [← hD] at C1
  rw [← hE] at H0 C5 ⊢
  rw [← hD] at C5 C4 ⊢
  clear hT9 hD hE SD SE ST SP hd0 h0 hg1 hg2 hs1 hs2 hT
  subst hp
  have hlt : decide ((n : Int) < 0) = false := decide_eq_false (by omega)
  clear hn
  go_enter Tryz.func92, Tryz.ntmps92
  have Z_e := Lib.hid (HZ.out.kp HT.out.k)
  obtain ⟨g0, g1, g2, g3⟩ := HT.out.ra.cells
  go_wp2_with (go_at_call 128; (with_reducible refine (C1.out _).mono ?_); rintro e w2 ⟨v1, rfl, n1, k2⟩; refine Hid.out ?_)
  refine Lib.hid ?_
  have T_2 := Lib.hid (HT.out.kp k2)
  have Z_2 := Lib.hid (Z_e.out.kp k2)
  clear HT Z_e
  have N1_2 := Lib.hid n1
  clear n1 k2
  obtain ⟨g0, g1, g2, g3⟩ := T_2.out.ra.cells
  go_wp2_with (go_at_call 128; (with_reducible refine (C2.out _).mono ?_); rintro e w3 ⟨v2, rfl, n2, k3⟩; refine Hid.out ?_)
  refine Lib.hid ?_
  have T_3 := Lib.hid (T_2.out.kp k3)
  have Z_3 := Lib.hid (Z_2.out.kp k3)
  have N1_3 := Lib.hid (N1_2.out.kp k3)
  clear T_2 Z_2 N1_2
  have N2_3 := Lib.hid n2
  clear n2 k3
  obtain ⟨g0, g1, g2, g3⟩ := T_3.out.ra.cells
  obtain ⟨o9, l9, c9, rfl⟩ := m_slice N2_3.out
  have hl9 := m_len_zero' N2_3.out
  have hl90 : 0 < l9 := by have := H0.out; omega
  have hlz : ((l9 : Int) == 0) = false := beq_eq_false_iff_ne.2 (by omega)
  clear hl9
  go_wp2_with (go_at_call 129; (with_reducible refine (C3.out _).mono ?_); rintro e w4 ⟨v3, rfl, n3, k4⟩; refine Hid.out ?_)
  refine Lib.hid ?_
  have T_4 := Lib.hid (T_3.out.kp k4)
  have Z_4 := Lib.hid (Z_3.out.kp k4)
  have N1_4 := Lib.hid (N1_3.out.kp k4)
  have N2_4 := Lib.hid (N2_3.out.kp k4)
  clear T_3 Z_3 N1_3 N2_3
  have N3_4 := Lib.hid n3
  clear n3 k4
  obtain ⟨g0, g1, g2, g3⟩ := T_4.out.ra.cells
  go_wp2_with (go_at_call 107; (with_reducible refine (C4.out _ _ _ N1_4.out N3_4.out).mono ?_); rintro e w5 ⟨v4, rfl, n4, k5⟩; refine Hid.out ?_)
  refine Lib.hid ?_
  have T_5 := Lib.hid (T_4.out.kp k5)
  have Z_5 := Lib.hid (Z_4.out.kp k5)
  have N1_5 := Lib.hid (N1_4.out.kp k5)
  have N2_5 := Lib.hid (N2_4.out.kp k5)
  have N3_5 := Lib.hid (N3_4.out.kp k5)
  clear T_4 Z_4 N1_4 N2_4 N3_4
  have N4_5 := Lib.hid n4
  clear n4 k5
  obtain ⟨g0, g1, g2, g3⟩ := T_5.out.ra.cells
  go_wp2_with (go_at_call 62; (with_reducible refine (C5.out _ _ _ N4_5.out N2_5.out Z_5.out).mono ?_); rintro e w6 ⟨vr, rfl, hvr, k6⟩; refine Hid.out ?_)
  refine Lib.hid ?_
  have T_6 := Lib.hid (T_5.out.kp k6)
  have Z_6 := Lib.hid (Z_5.out.kp k6)
  have N1_6 := Lib.hid (N1_5.out.kp k6)
  have N2_6 := Lib.hid (N2_5.out.kp k6)
  have N3_6 := Lib.hid (N3_5.out.kp k6)
  have N4_6 := Lib.hid (N4_5.out.kp k6)
  clear T_5 Z_5 N1_5 N2_5 N3_5 N4_5
  clear k6
  obtain ⟨sgn, q1, r1, s1, q2, r2, s2, rfl⟩ := hvr.lit
  obtain ⟨⟨e0, e1, e2, f0, f1, f2⟩, HPP, HV, HKF⟩ := rat_ends T_6.out.rr T_6.out.k (Below.refl _ _) hvr (by omega)
  clear hvr
  obtain ⟨k0, k1, k2⟩ := HPP.out
  go_wp2
  exact bodyPost_ret (v := .tuple #[.agg #[.bool sgn, .slice q1 r1 s1, .slice q2 r2 s2], .int .i64 0]) (by simp [results, Tryz.results92, go_sem, k0, k1, k2]) rfl ⟨_, rfl, HV.out, HKF.out⟩
end Go.Proofs.YtmnnnoeenfmckaaGreatDoor

/-
  rational.cutDigits: by walking its text.
-/
namespace Go.Proofs.YtmnnnoeenfmckaaGreatDoor
open Go.RowKit

theorem ret_str2 {a b c d : ByteArray} (h : a = c) (h2 : b = d) : Ending.returned (.tuple #[.string a, .string b]) = .returned (.tuple #[.string c, .string d]) := by rw [h, h2]

theorem cut_at {l : List UInt8} {k : Nat} (hd : digits (l.take k) = true) (hk : k < l.length) (hn : isDig l[k] = false) : l.takeWhile isDig = l.take k ∧ l.dropWhile isDig = l.drop k := by
  induction k generalizing l with
  | zero =>
    obtain ⟨c, r, rfl⟩ : ∃ c r, l = c :: r := by
      cases l with
      | nil => simp at hk
      | cons c r => exact ⟨c, r, rfl⟩
    simp at hn
    simp [hn]
  | succ k ih =>
    obtain ⟨c, r, rfl⟩ : ∃ c r, l = c :: r := by
      cases l with
      | nil => simp at hk
      | cons c r => exact ⟨c, r, rfl⟩
    unfold digits at hd
    simp only [List.take_succ_cons, List.all_cons, Bool.and_eq_true] at hd
    have := ih (l := r) (by unfold digits; exact hd.2) (by simpa using hk) (by simpa using hn)
    simp [hd.1, this.1, this.2]

theorem cut_all {l : List UInt8} (hd : digits l = true) : l.takeWhile isDig = l ∧ l.dropWhile isDig = [] := by
  induction l with
  | nil => simp
  | cons c r ih =>
    unfold digits at hd
    rw [List.all_cons, Bool.and_eq_true] at hd
    have := ih (by unfold digits; exact hd.2)
    simp [hd.1, this.1, this.2]

theorem ba_take (s : ByteArray) (k : Nat) : s.extract 0 k = ⟨(s.data.toList.take k).toArray⟩ := by
  apply ByteArray.ext
  apply Array.ext'
  simp
theorem ba_drop (s : ByteArray) (k : Nat) : s.extract k s.size = ⟨(s.data.toList.drop k).toArray⟩ := by
  apply ByteArray.ext
  apply Array.ext'
  simp only [ByteArray.data_extract, Array.toList_extract, List.extract_eq_take_drop]
  refine List.take_of_length_le ?_
  rw [List.length_drop, len_data]
  exact Nat.le_refl _

set_option maxRecDepth 20000 in
set_option maxHeartbeats 1000000 in
theorem cut_any (s : ByteArray) (w : World) (hs : s.size ≤ 9223372036854775807) :
    Calls Tryz.prog 126 #[.string s] w fun e w' => e = .returned (.tuple #[.string ⟨(s.data.toList.takeWhile isDig).toArray⟩, .string ⟨(s.data.toList.dropWhile isDig).toArray⟩]) ∧ Kp w w' := by
  go_enter Tryz.func126, Tryz.ntmps126
  go_wp2
  go_loop [4, 7] (fun _ i => ∃ k : Nat, k ≤ s.size ∧ i = .int .i64 k ∧ digits (s.data.toList.take k) = true) (fun _ i => s.size - (intOf i).toNat)
  case atStart => exact ⟨0, Nat.zero_le _, rfl, rfl⟩
  case round =>
    obtain ⟨k, hk, rfl, hd⟩ := hrel
    have HD := Lib.hid hd
    clear hd
    by_cases hlt : k < s.size
    · have HCUT := Lib.hid (fun (h : isDig s[k] = false) => cut_at HD.out hlt h)
      have HB1 := Lib.hid (ba_take s k)
      have HB2 := Lib.hid (ba_drop s k)
      by_cases h1 : s[k].toNat < 48
      · have HC := Lib.hid (HCUT.out (by unfold isDig; exact decide_eq_false (by omega)))
        clear HCUT
        go_wp2
        go_quiet (fail)
        go_wp2
        go_ret2
        exact ⟨ret_str2 (by rw [HC.out.1]; exact HB1.out) (by rw [HC.out.2]; exact HB2.out), Kp.drewN (Below.refl _ _) _⟩
      · by_cases h2 : 57 < s[k].toNat
        · have HC := Lib.hid (HCUT.out (by unfold isDig; exact decide_eq_false (by omega)))
          clear HCUT
          go_wp2
          go_quiet (fail)
          go_wp2
          go_ret2
          exact ⟨ret_str2 (by rw [HC.out.1]; exact HB1.out) (by rw [HC.out.2]; exact HB2.out), Kp.drewN (Below.refl _ _) _⟩
        · have HF := Lib.hid (digits_step k hlt HD.out (by omega))
          clear HCUT
          go_wp2
          go_round
          case rel => exact ⟨k + 1, by omega, by go_num, HF.out⟩
          case measure => simp [intOf]; omega
    · obtain rfl : k = s.size := by omega
      have hd := HD.out
      rw [take_size] at hd
      have HC := Lib.hid (cut_all hd)
      clear hd
      go_wp2
      go_ret2
      exact ⟨ret_str2 (by rw [HC.out.1]) (by rw [HC.out.2]), Below.refl _ _⟩
end Go.Proofs.YtmnnnoeenfmckaaGreatDoor

/-
  rational.exponent: by walking its text.
-/
namespace Go.Proofs.YtmnnnoeenfmckaaGreatDoor
open Go.RowKit

theorem decFrom_digits {l : List UInt8} (h : digits l = true) (acc : Nat) : Lib.decFrom acc l = some (l.foldl dnext acc) := by
  induction l generalizing acc with
  | nil => rfl
  | cons c r ih =>
    unfold digits at h
    rw [List.all_cons, Bool.and_eq_true] at h
    have hc := of_decide_eq_true h.1
    have hd : Lib.digitVal c = some (c.toNat - 48) := by unfold Lib.digitVal; rw [if_pos hc]
    unfold Lib.decFrom
    rw [hd]
    simp only [List.foldl_cons]
    rw [ih (by unfold digits; exact h.2), show dnext acc c = acc * 10 + (c.toNat - 48) from by unfold dnext; omega]

theorem atoi_digits {l : List UInt8} (h : digits l = true) (h0 : l ≠ []) : Lib.atoi l = some (dval l : Int) := by
  obtain ⟨c, r, rfl⟩ : ∃ c r, l = c :: r := by
    cases l with
    | nil => exact absurd rfl h0
    | cons c r => exact ⟨c, r, rfl⟩
  have hd := h
  unfold digits at hd
  rw [List.all_cons, Bool.and_eq_true] at hd
  have hc := of_decide_eq_true hd.1
  have h1 : (c == 45) = false := beq_eq_false_iff_ne.2 (by rintro rfl; simp at hc)
  have h2 : (c == 43) = false := beq_eq_false_iff_ne.2 (by rintro rfl; simp at hc)
  unfold Lib.atoi
  simp only [h1, h2, Bool.false_eq_true, if_false]
  unfold Lib.decNat
  rw [if_neg (by simp), decFrom_digits h]
  rfl

theorem digits_takeWhile (l : List UInt8) : digits (l.takeWhile isDig) = true := by
  unfold digits
  exact List.all_takeWhile

/-- What a cut of a prefix gives, as variables. -/
theorem cutp_any (s p : ByteArray) (w : World) :
    Calls Tryz.prog 125 #[.string s, .string p] w fun e w' => ∃ t : ByteArray, e = .returned (.tuple #[.string t, .bool (Lib.hasPrefix s.data.toList p.data.toList)]) ∧ t.data.toList = Lib.trimPrefix s.data.toList p.data.toList ∧ w' = w := by
  refine (Tryz.strings_CutPrefix s p w).mono ?_
  rintro e w' ⟨he, hw⟩
  exact ⟨_, he, by simp, hw⟩
theorem trimp_any (s p : ByteArray) (w : World) :
    Calls Tryz.prog 154 #[.string s, .string p] w fun e w' => ∃ t : ByteArray, e = .returned (.string t) ∧ t.data.toList = Lib.trimPrefix s.data.toList p.data.toList ∧ w' = w := by
  refine (Tryz.strings_TrimPrefix s p w).mono ?_
  rintro e w' ⟨he, hw⟩
  exact ⟨_, he, by simp, hw⟩
theorem cut2_any (s : ByteArray) (w : World) (hs : s.size ≤ 9223372036854775807) :
    Calls Tryz.prog 126 #[.string s] w fun e w' => ∃ d r : ByteArray, e = .returned (.tuple #[.string d, .string r]) ∧ d.data.toList = s.data.toList.takeWhile isDig ∧ r.data.toList = s.data.toList.dropWhile isDig ∧ Kp w w' := by
  refine (cut_any s w hs).mono ?_
  rintro e w' ⟨he, hw⟩
  exact ⟨_, _, he, by simp, by simp, hw⟩
theorem atoi_any (s : ByteArray) (hd : digits s.data.toList = true) (h0 : s.data.toList ≠ []) (hl : s.size ≤ 18) (w : World) :
    Calls Tryz.prog 155 #[.string s] w fun e w' => e = .returned (.tuple #[.int .i64 (dval s.data.toList : Int), .nilIface]) ∧ Kp w w' := by
  refine (Tryz.strconv_Atoi s _ hl (atoi_digits hd h0) w).mono ?_
  rintro e w' ⟨he, t, rfl⟩
  exact ⟨he, Lib.bytesWorld_below w _ t⟩

/-- What stands behind the letter of an exponent and its sign. -/
def expR (r : List UInt8) : List UInt8 := if Lib.hasPrefix r [45] = true then Lib.trimPrefix r [45] else Lib.trimPrefix (Lib.trimPrefix r [45]) [43]
def expB (r : List UInt8) : Bool := !((expR r).takeWhile isDig).isEmpty && decide (((expR r).takeWhile isDig).length ≤ 3) && ((expR r).dropWhile isDig).isEmpty
def expZ (r : List UInt8) : Int := if Lib.hasPrefix r [45] = true then -(dval ((expR r).takeWhile isDig) : Int) else dval ((expR r).takeWhile isDig)
/-- The exponent at the end of a number, if that is well-formed. -/
def expOk : List UInt8 → Bool
  | [] => true
  | c :: r => (decide (c.toNat = 69) || decide (c.toNat = 101)) && expB r
def expV : List UInt8 → Int
  | [] => 0
  | _ :: r => expZ r

theorem em_of {t : ByteArray} {b : Bool} (h : t.data.toList.isEmpty = b) : t.toList.isEmpty = b := by rw [ByteArray.toList_eq]; exact h
theorem ret_ib {a b : Int} {p q : Bool} (h : a = b) (h2 : p = q) : Ending.returned (.tuple #[.int .i64 a, .bool p]) = .returned (.tuple #[.int .i64 b, .bool q]) := by rw [h, h2]

set_option maxRecDepth 20000 in
theorem exponent_nil (s : ByteArray) (w : World) (h : s.data.toList = []) :
    Calls Tryz.prog 127 #[.string s] w fun e w' => e = .returned (.tuple #[.int .i64 0, .bool true]) ∧ Kp w w' := by
  have he := em_of (t := s) (b := true) (by rw [h]; rfl)
  clear h
  go_enter Tryz.func127, Tryz.ntmps127
  go_wp2
  go_ret2
  exact ⟨rfl, Below.refl _ _⟩

set_option maxRecDepth 20000 in
theorem exponent_other (s : ByteArray) (w : World) (h0 : 0 < s.size) (h1 : s[0].toNat ≠ 69) (h2 : s[0].toNat ≠ 101) :
    Calls Tryz.prog 127 #[.string s] w fun e w' => e = .returned (.tuple #[.int .i64 0, .bool false]) ∧ Kp w w' := by
  have he := em_of (t := s) (b := false) (by cases h : s.data.toList with
    | nil => have := len_data s; rw [h] at this; simp at this; omega
    | cons c r => rfl)
  have e1 : ((s[0].toNat : Int) != 69) = true := by rw [bne_iff_ne]; omega
  have e2 : ((s[0].toNat : Int) != 101) = true := by rw [bne_iff_ne]; omega
  go_enter Tryz.func127, Tryz.ntmps127
  go_wp2
  go_ret2
  exact ⟨rfl, Below.refl _ _⟩

set_option maxRecDepth 20000 in
set_option maxHeartbeats 4000000 in
theorem exponent_some (s : ByteArray) (w : World) (h0 : 0 < s.size) (hs : s.size ≤ 4096) (h1 : s[0].toNat = 69 ∨ s[0].toNat = 101) :
    Calls Tryz.prog 127 #[.string s] w fun e w' => e = .returned (.tuple #[.int .i64 (if expB (s.data.toList.drop 1) = true then expZ (s.data.toList.drop 1) else 0), .bool (expB (s.data.toList.drop 1))]) ∧ Kp w w' := by
  have he := em_of (t := s) (b := false) (by cases h : s.data.toList with
    | nil => have := len_data s; rw [h] at this; simp at this; omega
    | cons c r => rfl)
  obtain ⟨l, hl⟩ : ∃ l, l = s.data.toList.drop 1 := ⟨_, rfl⟩
  rw [← hl]
  have hll : l.length ≤ 4096 := by rw [hl, List.length_drop, len_data]; omega
  obtain ⟨s1, hs1⟩ : ∃ t, s.extract 1 s.size = t := ⟨_, rfl⟩
  have HL1 : Hid (s1.data.toList = l) := Lib.hid (by rw [← hs1, ba_drop, hl])
  have HRES : Hid (∀ (d q : List UInt8) (b : Bool), b = Lib.hasPrefix l [45] → d = (expR l).takeWhile isDig → q = (expR l).dropWhile isDig →
      ((d.isEmpty = true ∨ 3 < d.length ∨ q.isEmpty = false) → expB l = false) ∧ (d.isEmpty = false → d.length ≤ 3 → q.isEmpty = true → expB l = true ∧ expZ l = if b = true then -(dval d : Int) else dval d)) := by
    refine Lib.hid ?_
    rintro d q b rfl rfl rfl
    constructor
    · rintro (h | h | h)
      · unfold expB; rw [h]; rfl
      · unfold expB; rw [decide_eq_false (by omega)]; simp
      · unfold expB; rw [h]; simp
    · intro ha hb hc
      exact ⟨by unfold expB; rw [ha, hc, decide_eq_true hb]; rfl, rfl⟩
  obtain ⟨B, hB⟩ : ∃ b, b = expB l := ⟨_, rfl⟩
  obtain ⟨Z, hZ⟩ : ∃ b, b = expZ l := ⟨_, rfl⟩
  rw [← hB, ← hZ] at HRES
  rw [← hB, ← hZ]
  have HCP := Lib.hid (cutp_any s1 ⟨#[45]⟩)
  rw [HL1.out] at HCP
  obtain ⟨b, hb⟩ : ∃ b, b = Lib.hasPrefix l [45] := ⟨_, rfl⟩
  rw [show (⟨#[45]⟩ : ByteArray).data.toList = [45] from rfl, ← hb] at HCP
  have HBB := Lib.hid hb
  have hlen : ∀ p : List UInt8, (Lib.trimPrefix l p).length ≤ l.length := by
    intro p
    unfold Lib.trimPrefix
    split
    · rw [List.length_drop]; omega
    · exact Nat.le_refl _
  have hlen2 : ∀ (m p : List UInt8), (Lib.trimPrefix m p).length ≤ m.length := by
    intro m p
    unfold Lib.trimPrefix
    split
    · rw [List.length_drop]; omega
    · exact Nat.le_refl _
  have HLEN := Lib.hid (And.intro hll (And.intro hlen hlen2))
  clear hl hll hB hZ hb hlen hlen2
  have hc : (((s[0].toNat : Int) != 69) = true ∧ ((s[0].toNat : Int) != 101) = false) ∨ ((s[0].toNat : Int) != 69) = false := by
    rcases h1 with h | h
    · right; rw [h]; rfl
    · left; rw [h]; exact ⟨rfl, rfl⟩
  clear h1
  rcases hc with ⟨e1, e2⟩ | e1
  all_goals
    cases b
    · go_enter Tryz.func127, Tryz.ntmps127
      go_wp2_with (go_at_call 125; (with_reducible refine (HCP.out _).mono ?_); rintro e w1 ⟨t1, rfl, ht1, rfl⟩; refine Hid.out ?_)
      refine Lib.hid ?_
      have HT1 := Lib.hid ht1
      clear ht1
      have HTP := Lib.hid (trimp_any t1 ⟨#[43]⟩)
      go_wp2_with (go_at_call 154; (with_reducible refine (HTP.out _).mono ?_); rintro e w1 ⟨t2, rfl, ht2, rfl⟩; refine Hid.out ?_)
      refine Lib.hid ?_
      have HT2 : Hid (t2.data.toList = expR l) := Lib.hid (by
        rw [ht2, HT1.out]
        unfold expR
        rw [← HBB.out]
        rfl)
      have hsz : t2.size ≤ 9223372036854775807 := by
        have e := len_data t2
        rw [ht2, HT1.out] at e
        rw [← e]
        exact Nat.le_trans (HLEN.out.2.2 _ _) (Nat.le_trans (HLEN.out.2.1 _) (Nat.le_trans HLEN.out.1 (by omega)))
      clear ht2
      have HCD := Lib.hid (cut2_any t2 w1 hsz)
      clear hsz
      go_wp2_with (go_at_call 126; (with_reducible refine HCD.out.mono ?_); rintro e w2 ⟨d, q, rfl, hd, hq, K2⟩; refine Hid.out ?_)
      refine Lib.hid ?_
      rw [HT2.out] at hd hq
      have HR := Lib.hid (HRES.out _ _ _ HBB.out hd hq)
      have hdg : digits d.data.toList = true := by rw [hd]; exact digits_takeWhile _
      have HDG := Lib.hid hdg
      have HK2 := Lib.hid K2
      have HLD := Lib.hid (len_data d)
      clear hd hq hdg K2
      by_cases c1 : d.data.toList.isEmpty = true
      · have f1 := em_of c1
        have HBF := Lib.hid (HR.out.1 (Or.inl c1))
        have hbf := HBF.out
        clear c1 HR HBF
        subst hbf
        go_wp2
        go_ret2
        exact ⟨rfl, HK2.out⟩
      · have c1' : d.data.toList.isEmpty = false := by simpa using c1
        have f1 := em_of c1'
        by_cases c2 : 3 < d.size
        · have HBF := Lib.hid (HR.out.1 (Or.inr (Or.inl (by rw [HLD.out]; exact c2))))
          have c2' : decide ((3 : Int) < (d.size : Int)) = true := decide_eq_true (by omega)
          have hbf := HBF.out
          clear c1 c1' HR HBF
          subst hbf
          go_wp2
          go_ret2
          exact ⟨rfl, HK2.out⟩
        · have c2' : decide ((3 : Int) < (d.size : Int)) = false := decide_eq_false (by omega)
          by_cases c3 : q.data.toList.isEmpty = true
          · have f3 := em_of c3
            have HAT := Lib.hid (atoi_any d HDG.out (by intro e; rw [e] at c1; exact c1 rfl) (by omega) w2)
            have HBT := Lib.hid (HR.out.2 c1' (by rw [HLD.out]; omega) c3)
            have hdv : dval d.data.toList < 1000 := by
              have h9 := dval_lt HDG.out
              rw [HLD.out] at h9
              exact Nat.lt_of_lt_of_le h9 (Nat.pow_le_pow_right (by decide) (show d.size ≤ 3 by omega))
            obtain ⟨dv, hdv2⟩ : ∃ v, v = dval d.data.toList := ⟨_, rfl⟩
            rw [← hdv2] at HAT HBT hdv
            obtain ⟨hbt, hzt⟩ := HBT.out
            clear c1 c1' c3 HR hdv2 HBT HRES
            subst hbt
            subst hzt
            go_wp2_with (go_at_call 155; (with_reducible refine HAT.out.mono ?_); rintro e w3 ⟨rfl, K3⟩; refine Hid.out ?_)
            refine Lib.hid ?_
            have HK3 := Lib.hid (HK2.out.tr K3)
            clear K3
            go_wp2
            go_ret2
            exact ⟨ret_ib (by simp) rfl, HK3.out⟩
          · have c3' : q.data.toList.isEmpty = false := by simpa using c3
            have f3 := em_of c3'
            have HBF := Lib.hid (HR.out.1 (Or.inr (Or.inr c3')))
            have hbf := HBF.out
            clear c1 c1' c3 c3' HR HBF
            subst hbf
            go_wp2
            go_ret2
            exact ⟨rfl, HK2.out⟩
    · go_enter Tryz.func127, Tryz.ntmps127
      go_wp2_with (go_at_call 125; (with_reducible refine (HCP.out _).mono ?_); rintro e w1 ⟨t1, rfl, ht1, rfl⟩; refine Hid.out ?_)
      refine Lib.hid ?_
      have HT1 := Lib.hid ht1
      clear ht1
      obtain ⟨t2, ht2⟩ : ∃ t, t = t1 := ⟨_, rfl⟩
      rw [← ht2] at HT1 ⊢
      have HT2 : Hid (t2.data.toList = expR l) := Lib.hid (by
        rw [HT1.out]
        unfold expR
        rw [← HBB.out, if_pos rfl])
      have hsz : t2.size ≤ 9223372036854775807 := by
        have e := len_data t2
        rw [HT1.out] at e
        have h2 := HLEN.out.2.1 [45]
        have h3 := HLEN.out.1
        omega
      clear ht2
      have HCD := Lib.hid (cut2_any t2 w1 hsz)
      clear hsz
      go_wp2_with (go_at_call 126; (with_reducible refine HCD.out.mono ?_); rintro e w2 ⟨d, q, rfl, hd, hq, K2⟩; refine Hid.out ?_)
      refine Lib.hid ?_
      rw [HT2.out] at hd hq
      have HR := Lib.hid (HRES.out _ _ _ HBB.out hd hq)
      have hdg : digits d.data.toList = true := by rw [hd]; exact digits_takeWhile _
      have HDG := Lib.hid hdg
      have HK2 := Lib.hid K2
      have HLD := Lib.hid (len_data d)
      clear hd hq hdg K2
      by_cases c1 : d.data.toList.isEmpty = true
      · have f1 := em_of c1
        have HBF := Lib.hid (HR.out.1 (Or.inl c1))
        have hbf := HBF.out
        clear c1 HR HBF
        subst hbf
        go_wp2
        go_ret2
        exact ⟨rfl, HK2.out⟩
      · have c1' : d.data.toList.isEmpty = false := by simpa using c1
        have f1 := em_of c1'
        by_cases c2 : 3 < d.size
        · have HBF := Lib.hid (HR.out.1 (Or.inr (Or.inl (by rw [HLD.out]; exact c2))))
          have c2' : decide ((3 : Int) < (d.size : Int)) = true := decide_eq_true (by omega)
          have hbf := HBF.out
          clear c1 c1' HR HBF
          subst hbf
          go_wp2
          go_ret2
          exact ⟨rfl, HK2.out⟩
        · have c2' : decide ((3 : Int) < (d.size : Int)) = false := decide_eq_false (by omega)
          by_cases c3 : q.data.toList.isEmpty = true
          · have f3 := em_of c3
            have HAT := Lib.hid (atoi_any d HDG.out (by intro e; rw [e] at c1; exact c1 rfl) (by omega) w2)
            have HBT := Lib.hid (HR.out.2 c1' (by rw [HLD.out]; omega) c3)
            have hdv : dval d.data.toList < 1000 := by
              have h9 := dval_lt HDG.out
              rw [HLD.out] at h9
              exact Nat.lt_of_lt_of_le h9 (Nat.pow_le_pow_right (by decide) (show d.size ≤ 3 by omega))
            obtain ⟨dv, hdv2⟩ : ∃ v, v = dval d.data.toList := ⟨_, rfl⟩
            rw [← hdv2] at HAT HBT hdv
            obtain ⟨hbt, hzt⟩ := HBT.out
            clear c1 c1' c3 HR hdv2 HBT HRES
            subst hbt
            subst hzt
            go_wp2_with (go_at_call 155; (with_reducible refine HAT.out.mono ?_); rintro e w3 ⟨rfl, K3⟩; refine Hid.out ?_)
            refine Lib.hid ?_
            have HK3 := Lib.hid (HK2.out.tr K3)
            clear K3
            go_wp2
            go_ret2
            exact ⟨ret_ib (by simp) rfl, HK3.out⟩
          · have c3' : q.data.toList.isEmpty = false := by simpa using c3
            have f3 := em_of c3'
            have HBF := Lib.hid (HR.out.1 (Or.inr (Or.inr c3')))
            have hbf := HBF.out
            clear c1 c1' c3 c3' HR HBF
            subst hbf
            go_wp2
            go_ret2
            exact ⟨rfl, HK2.out⟩

theorem exponent_any (s : ByteArray) (w : World) (hs : s.size ≤ 4096) :
    Calls Tryz.prog 127 #[.string s] w fun e w' => e = .returned (.tuple #[.int .i64 (if expOk s.data.toList = true then expV s.data.toList else 0), .bool (expOk s.data.toList)]) ∧ Kp w w' := by
  by_cases h0 : s.data.toList = []
  · rw [h0]
    exact exponent_nil s w h0
  · obtain ⟨c, r, hcr⟩ : ∃ c r, s.data.toList = c :: r := by
      cases h : s.data.toList with
      | nil => exact absurd h h0
      | cons c r => exact ⟨c, r, rfl⟩
    have hsz : 0 < s.size := by
      have := len_data s
      rw [hcr] at this
      simp at this
      omega
    have hc : s[0] = c := by
      have : s.data.toList[0]? = some c := by rw [hcr]; rfl
      have h2 : s.data[0]? = some c := by simpa using this
      have h3 := (Array.getElem?_eq_some_iff.1 h2).2
      exact h3
    rw [hcr]
    by_cases h1 : s[0].toNat = 69 ∨ s[0].toNat = 101
    · have := exponent_some s w hsz hs h1
      rw [hcr] at this
      have hk : expOk (c :: r) = expB r := by
        unfold expOk
        rw [← hc]
        rcases h1 with h | h <;> simp [h]
      rw [hk]
      exact this
    · have hk : expOk (c :: r) = false := by
        show ((decide (c.toNat = 69) || decide (c.toNat = 101)) && expB r) = false
        rw [← hc, decide_eq_false (fun h => h1 (Or.inl h)), decide_eq_false (fun h => h1 (Or.inr h))]
        rfl
      rw [hk]
      exact exponent_other s w hsz (fun h => h1 (Or.inl h)) (fun h => h1 (Or.inr h))
end Go.Proofs.YtmnnnoeenfmckaaGreatDoor

/-
  rational.formOf: by walking its text.
-/
namespace Go.Proofs.YtmnnnoeenfmckaaGreatDoor
open Go.RowKit

theorem Ntb.fz {w : World} {g : Nat} {a b c d : Value} (h : Ntb w g a b c d) : w.frozen? ⟨g, 0, none⟩ = false ∧ w.frozen? ⟨g, 1, none⟩ = false ∧ w.frozen? ⟨g, 2, none⟩ = false ∧ w.frozen? ⟨g, 3, none⟩ = false :=
  ⟨frozen_of_row w g 0 _ _ h, frozen_of_row w g 1 _ _ h, frozen_of_row w g 2 _ _ h, frozen_of_row w g 3 _ _ h⟩
theorem Ntb.set0 {w : World} {g : Nat} {a b c d : Value} (h : Ntb w g a b c d) (x : Value) : Ntb (w.setCell ⟨g, 0, none⟩ x) g x b c d := heap_setCell_same w g 0 _ _ x h
theorem Ntb.set1 {w : World} {g : Nat} {a b c d : Value} (h : Ntb w g a b c d) (x : Value) : Ntb (w.setCell ⟨g, 1, none⟩ x) g a x c d := heap_setCell_same w g 1 _ _ x h
theorem Ntb.set2 {w : World} {g : Nat} {a b c d : Value} (h : Ntb w g a b c d) (x : Value) : Ntb (w.setCell ⟨g, 2, none⟩ x) g a b x d := heap_setCell_same w g 2 _ _ x h
theorem Ntb.set3 {w : World} {g : Nat} {a b c d : Value} (h : Ntb w g a b c d) (x : Value) : Ntb (w.setCell ⟨g, 3, none⟩ x) g a b c x := heap_setCell_same w g 3 _ _ x h
theorem Ntb.put {w : World} {g : Nat} {a b c d : Value} (h : Ntb w g a b c d) (x y z u : Value) : Ntb ((((w.setCell ⟨g, 0, none⟩ x).setCell ⟨g, 1, none⟩ y).setCell ⟨g, 2, none⟩ z).setCell ⟨g, 3, none⟩ u) g x y z u :=
  (((h.set0 x).set1 y).set2 z).set3 u
theorem Ntb.off {w : World} {g g2 i : Nat} {a b c d x : Value} (h : Ntb w g a b c d) (hg : g2 ≠ g) : Ntb (w.setCell ⟨g2, i, none⟩ x) g a b c d := by
  unfold Ntb
  rw [heap_setCell_other _ _ _ _ (show g ≠ (⟨g2, i, none⟩ : Addr).block from fun e => hg e.symm)]
  exact h

/-- Where formOf stands: the block of its result and that of its variable. -/
structure Fm (w wc : World) (a b c d : Value) : Prop where
  k : Kp w wc
  rr : Ntb wc w.heap.size (.bool false) (.string ⟨#[]⟩) (.string ⟨#[]⟩) (.int .i64 0)
  nb : Ntb wc (w.heap.size + 1) a b c d
theorem Fm.kp {w wc w' : World} {a b c d : Value} (h : Fm w wc a b c d) (k : Kp wc w') : Fm w w' a b c d := ⟨h.k.tr k, h.rr.kp k, h.nb.kp k⟩
theorem Fm.new (w : World) (a b c d : Value) : Fm w ((w.alloc (.cells #[.bool false, .string ⟨#[]⟩, .string ⟨#[]⟩, .int .i64 0] 77)).alloc (.cells #[a, b, c, d] 77)) a b c d := by
  have h1 := Ntb.new (w.alloc (.cells #[.bool false, .string ⟨#[]⟩, .string ⟨#[]⟩, .int .i64 0] 77)) a b c d
  rw [World.size_alloc] at h1
  exact ⟨(Kp.alloc w _).tr (Kp.alloc _ _), (Ntb.new w _ _ _ _).kp (Kp.alloc _ _), h1⟩
theorem Fm.set {w wc : World} {a b c d a' b' c' d' x : Value} {i : Nat} (h : Fm w wc a b c d) (h2 : Ntb (wc.setCell ⟨w.heap.size + 1, i, none⟩ x) (w.heap.size + 1) a' b' c' d') : Fm w (wc.setCell ⟨w.heap.size + 1, i, none⟩ x) a' b' c' d' :=
  ⟨h.k.setCell (by simp) x, h.rr.off (by omega), h2⟩

set_option maxRecDepth 20000 in
set_option maxHeartbeats 4000000 in
theorem formOf_dot (s : ByteArray) (w : World) (hs : s.size ≤ 4096) (l d q r b q2 : List UInt8) (hl : l = Lib.trimPrefix s.data.toList [45]) (hd : d = l.takeWhile isDig) (hq : q = l.dropWhile isDig) (hd0 : d ≠ [])
    (h47 : Lib.hasPrefix q [47] = false) (h46 : Lib.hasPrefix q [46] = true) (hr : r = Lib.trimPrefix q [46]) (hb : b = r.takeWhile isDig) (hq2 : q2 = r.dropWhile isDig) (hb0 : b ≠ []) :
    Calls Tryz.prog 91 #[.string s] w fun e w' => ∃ (ds : ByteArray) (pw : Int), e = .returned (.tuple #[.agg #[.bool (Lib.hasPrefix s.data.toList [45]), .string ds, .string ⟨#[49]⟩, .int .i64 pw], .bool (expOk q2)]) ∧ ds.data.toList = d ++ b ∧ pw = -(b.length : Int) + (if expOk q2 = true then expV q2 else 0) ∧ Kp w w' := by
  obtain ⟨ng, hng⟩ : ∃ n, n = Lib.hasPrefix s.data.toList [45] := ⟨_, rfl⟩
  rw [← hng]
  have tp : ∀ (m p : List UInt8), (Lib.trimPrefix m p).length ≤ m.length := by
    intro m p
    unfold Lib.trimPrefix
    split
    · rw [List.length_drop]; omega
    · exact Nat.le_refl _
  have ll : l.length ≤ 4096 := by rw [hl]; exact Nat.le_trans (tp _ _) hs
  have ld : d.length ≤ 4096 := by rw [hd]; exact Nat.le_trans ((List.takeWhile_sublist _).length_le) ll
  have lq : q.length ≤ 4096 := by rw [hq]; exact Nat.le_trans ((List.dropWhile_sublist _).length_le) ll
  have lr : r.length ≤ 4096 := by rw [hr]; exact Nat.le_trans (tp _ _) lq
  have lb : b.length ≤ 4096 := by rw [hb]; exact Nat.le_trans ((List.takeWhile_sublist _).length_le) lr
  have lq2 : q2.length ≤ 4096 := by rw [hq2]; exact Nat.le_trans ((List.dropWhile_sublist _).length_le) lr
  have HCP := Lib.hid (cutp_any s ⟨#[45]⟩)
  rw [show (⟨#[45]⟩ : ByteArray).data.toList = [45] from rfl, ← hl, ← hng] at HCP
  have HLL := Lib.hid (And.intro ll (And.intro ld (And.intro lq (And.intro lr (And.intro lb lq2)))))
  have HC1 := Lib.hid (fun (t : ByteArray) (h : t.data.toList = l) w' => (show Calls Tryz.prog 126 #[.string t] w' fun e w2 => ∃ x y : ByteArray, e = .returned (.tuple #[.string x, .string y]) ∧ x.data.toList = d ∧ y.data.toList = q ∧ Kp w' w2 from by
    have h3 := cut2_any t w' (by have h2 := len_data t; rw [h] at h2; omega)
    rw [h, ← hd, ← hq] at h3
    exact h3))
  have HP47 := Lib.hid (fun (t : ByteArray) (h : t.data.toList = q) w' => (show Calls Tryz.prog 125 #[.string t, .string ⟨#[47]⟩] w' fun e w2 => ∃ x : ByteArray, e = .returned (.tuple #[.string x, .bool false]) ∧ w2 = w' from by
    refine (cutp_any t ⟨#[47]⟩ w').mono ?_
    rintro e w2 ⟨x, he, _, hw⟩
    rw [h, show (⟨#[47]⟩ : ByteArray).data.toList = [47] from rfl, h47] at he
    exact ⟨x, he, hw⟩))
  have HP46 := Lib.hid (fun (t : ByteArray) (h : t.data.toList = q) w' => (show Calls Tryz.prog 125 #[.string t, .string ⟨#[46]⟩] w' fun e w2 => ∃ x : ByteArray, e = .returned (.tuple #[.string x, .bool true]) ∧ x.data.toList = r ∧ w2 = w' from by
    refine (cutp_any t ⟨#[46]⟩ w').mono ?_
    rintro e w2 ⟨x, he, hx, hw⟩
    rw [h, show (⟨#[46]⟩ : ByteArray).data.toList = [46] from rfl, h46] at he
    rw [h, show (⟨#[46]⟩ : ByteArray).data.toList = [46] from rfl, ← hr] at hx
    exact ⟨x, he, hx, hw⟩))
  have HC2 := Lib.hid (fun (t : ByteArray) (h : t.data.toList = r) w' => (show Calls Tryz.prog 126 #[.string t] w' fun e w2 => ∃ x y : ByteArray, e = .returned (.tuple #[.string x, .string y]) ∧ x.data.toList = b ∧ y.data.toList = q2 ∧ Kp w' w2 from by
    have h3 := cut2_any t w' (by have h2 := len_data t; rw [h] at h2; omega)
    rw [h, ← hb, ← hq2] at h3
    exact h3))
  have HEX := Lib.hid (fun (t : ByteArray) (h : t.data.toList = q2) w' => (show Calls Tryz.prog 127 #[.string t] w' fun e w2 => e = .returned (.tuple #[.int .i64 (if expOk q2 = true then expV q2 else 0), .bool (expOk q2)]) ∧ Kp w' w2 from by
    have h3 := exponent_any t w' (by have h2 := len_data t; rw [h] at h2; omega)
    rw [h] at h3
    exact h3))
  have hev : -1000 < (if expOk q2 = true then expV q2 else 0) ∧ (if expOk q2 = true then expV q2 else 0) < 1000 := by
    by_cases he : expOk q2 = true
    · rw [if_pos he]
      cases q2 with
      | nil => simp [expV]
      | cons c t =>
        have he2 : ((decide (c.toNat = 69) || decide (c.toNat = 101)) && expB t) = true := he
        rw [Bool.and_eq_true] at he2
        have h3 := he2.2
        unfold expB at h3
        rw [Bool.and_eq_true, Bool.and_eq_true] at h3
        have h4 := of_decide_eq_true h3.1.2
        have h5 := dval_lt (digits_takeWhile (expR t))
        have h6 : dval ((expR t).takeWhile isDig) < 1000 := Nat.lt_of_lt_of_le h5 (Nat.pow_le_pow_right (by decide) h4)
        show -1000 < expZ t ∧ expZ t < 1000
        unfold expZ
        split <;> omega
    · rw [if_neg he]; omega
  obtain ⟨ev, hev2⟩ : ∃ v, v = (if expOk q2 = true then expV q2 else 0) := ⟨_, rfl⟩
  obtain ⟨eo, heo⟩ : ∃ v, v = expOk q2 := ⟨_, rfl⟩
  rw [← hev2] at HEX hev ⊢
  rw [← heo] at HEX ⊢
  have HD0 := Lib.hid (show d.isEmpty = false by cases d with
    | nil => exact absurd rfl hd0
    | cons c t => rfl)
  have HB0 := Lib.hid (show b.isEmpty = false by cases b with
    | nil => exact absurd rfl hb0
    | cons c t => rfl)
  obtain ⟨ev1, ev2⟩ := hev
  clear hl hd hq hd0 h47 h46 hr hb hq2 hb0 hng tp ll ld lq lr lb lq2 hev2 heo
  have HNEW := Lib.hid (Fm.new w (.bool ng) (.string ⟨#[]⟩) (.string ⟨#[49]⟩) (.int .i64 0))
  go_enter Tryz.func91, Tryz.ntmps91
  go_wp2_with (go_at_call 125; (with_reducible refine (HCP.out _).mono ?_); rintro e w1 ⟨t1, rfl, ht1, rfl⟩; refine Hid.out ?_)
  refine Lib.hid ?_
  have HC1a := Lib.hid (HC1.out t1 ht1)
  clear ht1
  go_wp2_with (go_at_call 126; (with_reducible refine (HC1a.out _).mono ?_); rintro e w2 ⟨x2, y2, rfl, hx2, hy2, k2⟩; refine Hid.out ?_)
  refine Lib.hid ?_
  have T2 := Lib.hid (HNEW.out.kp k2)
  clear k2
  obtain ⟨n0, n1, n2, n3⟩ := T2.out.nb.cells
  obtain ⟨z0, z1, z2, z3⟩ := T2.out.nb.fz
  have f1 := em_of (t := x2) (b := false) (by rw [hx2]; exact HD0.out)
  have HX2 := Lib.hid hx2
  have HPa := Lib.hid (HP47.out y2 hy2)
  have HPb := Lib.hid (HP46.out y2 hy2)
  have T3 := Lib.hid (T2.out.set (T2.out.nb.set1 (.string x2)))
  clear hx2 hy2
  go_wp2_with (first
    | (go_at_call 125; (with_reducible refine (HPa.out _).mono ?_); rintro e w3 ⟨x3, rfl, rfl⟩)
    | (go_at_call 125; (with_reducible refine (HPb.out _).mono ?_); rintro e w3 ⟨x4, rfl, hx4, rfl⟩; refine Hid.out ?_))
  refine Lib.hid ?_
  have HC2a := Lib.hid (HC2.out x4 hx4)
  clear hx4
  go_wp2_with (go_at_call 126; (with_reducible refine (HC2a.out _).mono ?_); rintro e w4 ⟨x5, y5, rfl, hx5, hy5, k4⟩; refine Hid.out ?_)
  refine Lib.hid ?_
  have T4 := Lib.hid (T3.out.kp k4)
  clear k4 n0 n1 n2 n3 z0 z1 z2 z3
  obtain ⟨n0, n1, n2, n3⟩ := T4.out.nb.cells
  obtain ⟨z0, z1, z2, z3⟩ := T4.out.nb.fz
  have f2 := em_of (t := x5) (b := false) (by rw [hx5]; exact HB0.out)
  have HX5 := Lib.hid hx5
  have HEXa := Lib.hid (HEX.out y5 hy5)
  have hsz1 : x2.size ≤ 4096 := by have h2 := len_data x2; rw [HX2.out] at h2; have := HLL.out.2.1; omega
  have hsz2 : x5.size ≤ 4096 := by have h2 := len_data x5; rw [HX5.out] at h2; have := HLL.out.2.2.2.2.1; omega
  have HSB := Lib.hid (show x5.size = b.length by rw [← HX5.out]; rfl)
  have t1 : (9223372036854775807 < x2.size + x5.size) = False := eq_false (by omega)
  clear hx5 hy5
  go_wp2_with (go_at_call 127; (with_reducible refine (HEXa.out _).mono ?_); rintro e w5 ⟨rfl, k5⟩; refine Hid.out ?_)
  refine Lib.hid ?_
  have T5 := Lib.hid (((T4.out.set (T4.out.nb.set1 _)).set ((T4.out.set (T4.out.nb.set1 _)).nb.set3 _)).kp k5)
  clear k5 n0 n1 n2 n3 z0 z1 z2 z3 f1 f2 t1
  obtain ⟨n0, n1, n2, n3⟩ := T5.out.nb.cells
  obtain ⟨z0, z1, z2, z3⟩ := T5.out.nb.fz
  obtain ⟨r0, r1, r2, r3⟩ := T5.out.rr.cells
  obtain ⟨y0, y1, y2', y3⟩ := T5.out.rr.fz
  have e1 : IntKind.i64.wrap (-(x5.size : Int) + ev) = -(x5.size : Int) + ev := IntWalk.i64_in _ (by omega)
  have hng1 : ¬ (w.heap.size + 1 = w.heap.size) := by omega
  have hng2 : ¬ (w.heap.size = w.heap.size + 1) := by omega
  go_wp2
  have T6 := T5.out.set (T5.out.nb.set3 (.int .i64 (-(x5.size : Int) + ev)))
  obtain ⟨k0, k1, k2, k3⟩ := (T6.rr.put (.bool ng) (.string (x2 ++ x5)) (.string ⟨#[49]⟩) (.int .i64 (-(x5.size : Int) + ev))).cells
  exact bodyPost_ret (v := .tuple #[.agg #[.bool ng, .string (x2 ++ x5), .string ⟨#[49]⟩, .int .i64 (-(x5.size : Int) + ev)], .bool eo]) (by simp [results, Tryz.results91, go_sem, k0, k1, k2, k3]) rfl
    ⟨x2 ++ x5, _, rfl, by rw [ByteArray.data_append, Array.toList_append, HX2.out, HX5.out], by rw [HSB.out], (((T6.k.setCell (Nat.le_refl _) _).setCell (Nat.le_refl _) _).setCell (Nat.le_refl _) _).setCell (Nat.le_refl _) _⟩
end Go.Proofs.YtmnnnoeenfmckaaGreatDoor
