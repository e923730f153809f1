/-
  natural.Gcd: by walking its text.
-/
import Derived.Test.YtijadodleiiomaaDoorGcdOdd
namespace Go.Proofs.YtijadodleiiomaaDoor
open Go.RowKit

theorem pow_odd_div {n e m : Nat} (h : n = 2 ^ e * (2 * m + 1)) : n / 2 ^ e = 2 * m + 1 := by
  rw [h, Nat.mul_comm, Nat.mul_div_cancel _ (Nat.pow_pos (by omega))]

theorem pow_odd_le {n e m L : Nat} (h : n = 2 ^ e * (2 * m + 1)) (hl : (toL n).length ≤ L) : (toL (2 * m + 1)).length ≤ L ∧ 2 * m + 1 ≤ n := by
  have h1 : 2 * m + 1 ≤ n := by rw [h]; exact Nat.le_mul_of_pos_left _ (Nat.pow_pos (by omega))
  exact ⟨Nat.le_trans (length_mono _ _ h1) hl, h1⟩

set_option maxRecDepth 20000 in
set_option maxHeartbeats 1000000 in
/-- Two numbers, one of them longer than two limbs. -/
theorem gcd_long {w : World} {a b : Value} {A B : Nat} (ha : M w a A) (hb : M w b B) (hlA : (toL A).length ≤ 17179869184) (hlB : (toL B).length ≤ 17179869184) (hA : 0 < A) (hB : 0 < B) (h2 : ¬ ((toL A).length ≤ 2 ∧ (toL B).length ≤ 2)) (hT : Tz w) :
    Calls Tryd.prog 31 #[a, b] w fun e w' => ∃ v, e = .returned v ∧ M w' v (Nat.gcd A B) ∧ Kp w w' := by
  have mA := ha
  have mB := hb
  obtain ⟨ao, ac, rfl, a1, a2, a3, a4⟩ := ha
  obtain ⟨bo, bc, rfl, b1, b2, b3, b4⟩ := hb
  have HA := Lib.hid (ntrim_at ao ac (toL A) w a1 a2 a4)
  have HB := Lib.hid (ntrim_at bo bc (toL B) w b1 b2 b4)
  rw [trimL_toL] at HA HB
  obtain ⟨ka, ta, ma, c1, c2, eA, _, _, HTA⟩ := twos_any _ _ w mA (by rw [val_toL]; omega) (by omega) hT
  obtain ⟨kb, tb, mb, d1, d2, eB, _, _, HTB⟩ := twos_any _ _ w mB (by rw [val_toL]; omega) (by omega) hT
  rw [val_toL] at eA eB
  obtain ⟨na, hna⟩ : ∃ n, n = 32 * ka + ta := ⟨_, rfl⟩
  obtain ⟨nb, hnb⟩ : ∃ n, n = 32 * kb + tb := ⟨_, rfl⟩
  rw [← hna] at eA HTA
  rw [← hnb] at eB HTB
  have HLA := Lib.hid (fun w' (k : Kp w w') => lowered_any (mA.kp k) (k := 17179869184) hlA (by omega) na (by omega))
  have HLB := Lib.hid (fun w' (k : Kp w w') => lowered_any (mB.kp k) (k := 17179869184) hlB (by omega) nb (by omega))
  rw [pow_odd_div eA] at HLA
  rw [pow_odd_div eB] at HLB
  obtain ⟨oA, _⟩ := pow_odd_le eA hlA
  obtain ⟨oB, _⟩ := pow_odd_le eB hlB
  have hG : Nat.gcd A B = Nat.gcd (2 * ma + 1) (2 * mb + 1) * 2 ^ min na nb := by
    rw [eA, eB, gcd_twos (by omega) (by omega), Nat.mul_comm]
  have hgl : Nat.gcd (2 * ma + 1) (2 * mb + 1) ≤ 2 * ma + 1 := Nat.le_of_dvd (by omega) (Nat.gcd_dvd_left _ _)
  have HODD := Lib.hid (fun w' ga gb va vb (k : Kp w w') ha hb h1 h2 hne => gcdOdd_core w w' ga gb va vb (2 * ma + 1) (2 * mb + 1) ha hb k h1 h2 hne oA oB (by omega) (by omega) hT)
  have hGs : (toL (Nat.gcd (2 * ma + 1) (2 * mb + 1))).length ≤ 17179869184 := Nat.le_trans (length_mono _ _ hgl) oA
  obtain ⟨G, hGG⟩ : ∃ G, G = Nat.gcd (2 * ma + 1) (2 * mb + 1) := ⟨_, rfl⟩
  obtain ⟨nm, hnm⟩ : ∃ n, n = min na nb := ⟨_, rfl⟩
  rw [← hGG] at HODD hG hGs
  rw [← hnm] at hG
  rw [hG]
  obtain ⟨u, hu⟩ : ∃ u, u = 2 * ma + 1 := ⟨_, rfl⟩
  obtain ⟨v, hv⟩ : ∃ v, v = 2 * mb + 1 := ⟨_, rfl⟩
  have hu0 : u ≠ 0 := by omega
  have hv0 : v ≠ 0 := by omega
  rw [← hu] at HLA HODD
  rw [← hv] at HLB HODD
  have HR := Lib.hid (fun w' x (h : M w' x G) => raised_any h (k := 17179869184) hGs (by omega) nm (by omega))
  have HTA := Lib.hid HTA
  have HTB := Lib.hid HTB
  have hmin : min (na : Int) (nb : Int) = (nm : Int) := by omega
  have hwa : IntKind.u64.wrap (na : Int) = (na : Int) := IntWalk.u64_in _ (by omega)
  have hwb : IntKind.u64.wrap (nb : Int) = (nb : Int) := IntWalk.u64_in _ (by omega)
  have hA1 : 0 < (toL A).length := by omega
  have hB1 : 0 < (toL B).length := by omega
  have hab : na ≤ 1099511627776 ∧ nb ≤ 1099511627776 := by omega
  have hT := Lib.hid hT
  unfold maxLen at a2 b2
  obtain ⟨la, hla⟩ : ∃ l, l = (toL A).length := ⟨_, rfl⟩
  obtain ⟨lb, hlb⟩ : ∃ l, l = (toL B).length := ⟨_, rfl⟩
  rw [← hla] at HA HTA HLA a1 hlA h2 hA1 ⊢
  rw [← hlb] at HB HTB HLB b1 hlB h2 hB1 ⊢
  clear hla hlb hu hv hnm hGG hG hgl eA eB oA oB mA mB hna hnb c1 c2 d1 d2 a3 a4 b3 b4 hA hB hGs
  by_cases hl2 : la ≤ 2
  all_goals
    have hbig : la ≤ 2 → ¬ lb ≤ 2 := fun h h' => h2 ⟨h, h'⟩
    have HBIG := Lib.hid hbig
    clear h2 hbig
    try have hlb2 : ¬ lb ≤ 2 := HBIG.out hl2
    go_enter Tryd.func31, Tryd.ntmps31
    go_wp2_with (first
      | (go_at_call 40; first | ((with_reducible refine HA.out.mono ?_); rintro e w1 ⟨rfl, rfl⟩) | ((with_reducible refine HB.out.mono ?_); rintro e w1 ⟨rfl, rfl⟩))
      | (go_at_call 48; first | ((with_reducible refine HTA.out.mono ?_); rintro e w1 ⟨rfl, rfl⟩) | ((with_reducible refine HTB.out.mono ?_); rintro e w1 ⟨rfl, rfl⟩)))
    obtain ⟨w0, rfl⟩ : ∃ w0, w0 = w1 := ⟨_, rfl⟩
    go_wp2_with (go_at_call 60; (with_reducible refine (HLA.out w0 (Below.refl _ _)).mono ?_); rintro e w2 ⟨va, rfl, hva, K2, hra⟩; refine Hid.out ?_)
    refine Lib.hid ?_
    have RA := Lib.hid (hra hu0)
    clear hva hra
    go_wp2_with (go_at_call 60; (with_reducible refine (HLB.out w2 K2).mono ?_); rintro e w3 ⟨vb, rfl, hvb, K3, hrb⟩; refine Hid.out ?_)
    refine Lib.hid ?_
    have RB := Lib.hid (hrb hv0)
    clear hvb hrb
    obtain ⟨ga, g1, g2, RGA⟩ := RA.out.g
    obtain ⟨gb, g3, g4, RGB⟩ := RB.out.g
    have HO := Lib.hid (HODD.out w3 ga gb va vb (K2.tr K3) (RGA.kp K3) RGB g1 (Nat.le_trans K2.size g3) (by omega))
    clear RGA RGB g1 g2 g3 g4
    go_wp2_with (go_at_call 59; (with_reducible refine HO.out.mono ?_); rintro e w4 ⟨vg, rfl, hvg, K4⟩; refine Hid.out ?_)
    refine Lib.hid ?_
    have HRR := Lib.hid (HR.out w4 vg hvg)
    clear hvg
    go_wp2_with (go_at_call 58; (with_reducible refine HRR.out.mono ?_); rintro e w5 ⟨vr, rfl, hvr, K5⟩; refine Hid.out ?_)
    refine Lib.hid ?_
    go_wp2
    go_ret
    exact ⟨_, rfl, hvr, K4.tr K5⟩

set_option maxRecDepth 20000 in
set_option maxHeartbeats 1000000 in
/-- Two numbers of at most two limbs each, none of them 0. -/
theorem gcd_short {w : World} {a b : Value} {A B : Nat} (ha : M w a A) (hb : M w b B) (hA : 0 < A) (hB : 0 < B) (h2 : (toL A).length ≤ 2 ∧ (toL B).length ≤ 2) (hT : Tz w) :
    Calls Tryd.prog 31 #[a, b] w fun e w' => ∃ v, e = .returned v ∧ M w' v (Nat.gcd A B) ∧ Kp w w' := by
  have mA := ha
  have mB := hb
  obtain ⟨ao, ac, rfl, a1, a2, a3, a4⟩ := ha
  obtain ⟨bo, bc, rfl, b1, b2, b3, b4⟩ := hb
  have HA := Lib.hid (ntrim_at ao ac (toL A) w a1 a2 a4)
  have HB := Lib.hid (ntrim_at bo bc (toL B) w b1 b2 b4)
  rw [trimL_toL] at HA HB
  have HSA := Lib.hid (small_any _ _ w mA h2.1)
  have HSB := Lib.hid (small_any _ _ w mB h2.2)
  rw [val_toL] at HSA HSB
  have hAlt := lt_two h2.1
  have HGS := Lib.hid (gcdSmall_any A B hAlt (lt_two h2.2) (by omega) w hT)
  have hGlt : Nat.gcd A B < 18446744073709551616 := Nat.lt_of_le_of_lt (Nat.le_of_dvd hA (Nat.gcd_dvd_left _ _)) hAlt
  obtain ⟨G, hG⟩ : ∃ G, G = Nat.gcd A B := ⟨_, rfl⟩
  rw [← hG] at HGS hGlt ⊢
  have HOF := Lib.hid (fun w' => of_any G w' hGlt)
  have hA1 : 0 < (toL A).length := by
    rcases Nat.eq_zero_or_pos (toL A).length with h | h
    · exact absurd ((toL_nil_iff A).1 (List.length_eq_zero_iff.1 h)) (by omega)
    · exact h
  have hB1 : 0 < (toL B).length := by
    rcases Nat.eq_zero_or_pos (toL B).length with h | h
    · exact absurd ((toL_nil_iff B).1 (List.length_eq_zero_iff.1 h)) (by omega)
    · exact h
  unfold maxLen at a2 b2
  obtain ⟨la, hla⟩ : ∃ l, l = (toL A).length := ⟨_, rfl⟩
  obtain ⟨lb, hlb⟩ : ∃ l, l = (toL B).length := ⟨_, rfl⟩
  rw [← hla] at HA HSA a1 h2 hA1 ⊢
  rw [← hlb] at HB HSB b1 h2 hB1 ⊢
  obtain ⟨l1, l2⟩ := h2
  clear hla hlb hG mA mB a3 a4 b3 b4 hT hAlt hGlt hA hB
  go_enter Tryd.func31, Tryd.ntmps31
  go_wp2_with (first
    | (go_at_call 40; first | ((with_reducible refine HA.out.mono ?_); rintro e w1 ⟨rfl, rfl⟩) | ((with_reducible refine HB.out.mono ?_); rintro e w1 ⟨rfl, rfl⟩))
    | (go_at_call 46; first | ((with_reducible refine HSA.out.mono ?_); rintro e w1 ⟨rfl, rfl⟩) | ((with_reducible refine HSB.out.mono ?_); rintro e w1 ⟨rfl, rfl⟩))
    | (go_at_call 57; (with_reducible refine HGS.out.mono ?_); rintro e w6 ⟨rfl, K6⟩; refine Hid.out ?_))
  refine Lib.hid ?_
  go_wp2_with (go_at_call 21; (with_reducible refine (HOF.out _).mono ?_); rintro e w7 ⟨v7, rfl, h7, K7⟩; refine Hid.out ?_)
  refine Lib.hid ?_
  go_wp2
  go_ret
  exact ⟨_, rfl, h7, K6.tr K7⟩

theorem copied_m {w : World} {v : Value} {n : Nat} (h : M w v n) (hl : (toL n).length ≤ 1099511627776) :
    Calls Tryd.prog 44 #[v] w fun e w' => ∃ v', e = .returned v' ∧ M w' v' n ∧ Kp w w' := by
  refine (copied_any v _ w h hl).mono ?_
  rintro e w' ⟨g, _, he, hO, k⟩
  rw [trimL_toL] at he hO
  have hr := hO.rd (limbs_toL n) (toL n).length (Nat.le_refl _) (toL n).length (Nat.le_refl _) (by unfold maxLen; omega)
  rw [List.take_of_length_le (Nat.le_refl _)] at hr
  exact ⟨_, he, hr, k⟩

set_option maxRecDepth 20000 in
set_option maxHeartbeats 1000000 in
/-- One of the numbers is 0. -/
theorem gcd_none {w : World} {a b : Value} {A B : Nat} (ha : M w a A) (hb : M w b B) (hlA : (toL A).length ≤ 17179869184) (hlB : (toL B).length ≤ 17179869184) (h0 : A = 0 ∨ B = 0) :
    Calls Tryd.prog 31 #[a, b] w fun e w' => ∃ v, e = .returned v ∧ M w' v (Nat.gcd A B) ∧ Kp w w' := by
  have HCA := Lib.hid (copied_m ha (by omega))
  have HCB := Lib.hid (copied_m hb (by omega))
  obtain ⟨ao, ac, rfl, a1, a2, a3, a4⟩ := ha
  obtain ⟨bo, bc, rfl, b1, b2, b3, b4⟩ := hb
  have HA := Lib.hid (ntrim_at ao ac (toL A) w a1 a2 a4)
  have HB := Lib.hid (ntrim_at bo bc (toL B) w b1 b2 b4)
  rw [trimL_toL] at HA HB
  unfold maxLen at a2 b2
  have hz : ∀ n : Nat, (toL n).length = 0 ↔ n = 0 := fun n => ⟨fun h => (toL_nil_iff n).1 (List.length_eq_zero_iff.1 h), fun h => by rw [h, toL_zero]; rfl⟩
  by_cases hA : A = 0
  · have hl := (hz A).2 hA
    rw [show Nat.gcd A B = B by rw [hA, Nat.gcd_zero_left]]
    rw [hl] at HA HCA ⊢
    obtain ⟨lb, hlb⟩ : ∃ l, l = (toL B).length := ⟨_, rfl⟩
    rw [← hlb] at HB HCB b1 ⊢
    clear hlb a3 a4 b3 b4 hz hl hA h0 a1 hlA hlB
    go_enter Tryd.func31, Tryd.ntmps31
    go_wp2_with (first
      | (go_at_call 40; first | ((with_reducible refine HA.out.mono ?_); rintro e w1 ⟨rfl, rfl⟩) | ((with_reducible refine HB.out.mono ?_); rintro e w1 ⟨rfl, rfl⟩))
      | (go_at_call 44; (with_reducible refine HCB.out.mono ?_); rintro e w6 ⟨v6, rfl, h6, K6⟩; refine Hid.out ?_))
    refine Lib.hid ?_
    go_wp2
    go_ret
    exact ⟨_, rfl, h6, K6⟩
  · have hB : B = 0 := by omega
    have hl := (hz B).2 hB
    have hne : 0 < (toL A).length := by
      rcases Nat.eq_zero_or_pos (toL A).length with h | h
      · exact absurd ((hz A).1 h) hA
      · exact h
    rw [show Nat.gcd A B = A by rw [hB, Nat.gcd_zero_right]]
    rw [hl] at HB HCB ⊢
    obtain ⟨la, hla⟩ : ∃ l, l = (toL A).length := ⟨_, rfl⟩
    rw [← hla] at HA HCA a1 hne ⊢
    clear hla a3 a4 b3 b4 hz hl hB h0 b1 hlA hlB
    go_enter Tryd.func31, Tryd.ntmps31
    go_wp2_with (first
      | (go_at_call 40; first | ((with_reducible refine HA.out.mono ?_); rintro e w1 ⟨rfl, rfl⟩) | ((with_reducible refine HB.out.mono ?_); rintro e w1 ⟨rfl, rfl⟩))
      | (go_at_call 44; (with_reducible refine HCA.out.mono ?_); rintro e w6 ⟨v6, rfl, h6, K6⟩; refine Hid.out ?_))
    refine Lib.hid ?_
    go_wp2
    go_ret
    exact ⟨_, rfl, h6, K6⟩

/-- natural.Gcd of any two magnitudes. -/
theorem gcd_any {w : World} {a b : Value} {A B : Nat} (ha : M w a A) (hb : M w b B) (hlA : (toL A).length ≤ 17179869184) (hlB : (toL B).length ≤ 17179869184) (hT : Tz w) :
    Calls Tryd.prog 31 #[a, b] w fun e w' => ∃ v, e = .returned v ∧ M w' v (Nat.gcd A B) ∧ Kp w w' := by
  by_cases h0 : A = 0 ∨ B = 0
  · exact gcd_none ha hb hlA hlB h0
  · by_cases h2 : (toL A).length ≤ 2 ∧ (toL B).length ≤ 2
    · exact gcd_short ha hb (by omega) (by omega) h2 hT
    · exact gcd_long ha hb hlA hlB (by omega) (by omega) h2 hT
end Go.Proofs.YtijadodleiiomaaDoor
