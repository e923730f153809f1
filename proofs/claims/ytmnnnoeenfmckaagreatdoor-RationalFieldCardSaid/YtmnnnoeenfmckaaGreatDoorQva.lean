/-
  rational.Valid of any limbs: by walking its text.
-/
import Derived.Test.YtmnnnoeenfmckaaGreatDoorBk
import Derived.Test.YtmnnnoeenfmckaaGreatDoorBv
namespace Go.Proofs.YtmnnnoeenfmckaaGreatDoor
open Go.RowKit

theorem nvalid_b {w : World} {v : Value} {xs : List Nat} {t : Bool} (h : Rd w v xs) (e : validB xs = t) :
    Calls Tryz.prog 66 #[v] w fun e w' => e = .returned (.bool t) ∧ w = w' := by
  have := nvalid_any v _ w h
  rw [e] at this
  exact this

set_option maxRecDepth 20000 in
set_option maxHeartbeats 1000000 in
/-- Limbs of the numerator that are no natural number. -/
theorem valid_a {w : World} {p : Bool} {a b : Value} {xs ys : List Nat} (ha : Rd w a xs) (hb : Rd w b ys) (e : validB xs = false) :
    Calls Tryz.prog 17 #[.agg #[.bool p, a, b]] w fun e w' => e = .returned (.bool false) ∧ Kp w w' := by
  have HN := Lib.hid (fun w' (kk : Kp w w') => nvalid_b (ha.kp kk) e)
  obtain ⟨a1, l1, c1, rfl⟩ := rd_slice ha
  obtain ⟨a2, l2, c2, rfl⟩ := rd_slice hb
  have HK := Lib.hid (fun o1 => Kp.alloc w o1)
  clear ha hb e
  go_enter Tryz.func17, Tryz.ntmps17
  go_wp2_with (go_at_call 66; (with_reducible refine (HN.out _ (HK.out _)).mono ?_); rintro e w1 ⟨rfl, rfl⟩)
  go_wp2
  go_ret
  exact ⟨rfl, HK.out _⟩

set_option maxRecDepth 20000 in
set_option maxHeartbeats 1000000 in
/-- Limbs of the denominator that are no natural number. -/
theorem valid_b {w : World} {p : Bool} {a b : Value} {xs ys : List Nat} (ha : Rd w a xs) (hb : Rd w b ys) (e : validB xs = true) (f : validB ys = false) :
    Calls Tryz.prog 17 #[.agg #[.bool p, a, b]] w fun e w' => e = .returned (.bool false) ∧ Kp w w' := by
  have HN := Lib.hid (fun w' (kk : Kp w w') => nvalid_b (ha.kp kk) e)
  have HD := Lib.hid (fun w' (kk : Kp w w') => nvalid_b (hb.kp kk) f)
  obtain ⟨a1, l1, c1, rfl⟩ := rd_slice ha
  obtain ⟨a2, l2, c2, rfl⟩ := rd_slice hb
  have HK := Lib.hid (fun o1 => Kp.alloc w o1)
  clear ha hb e f
  go_enter Tryz.func17, Tryz.ntmps17
  go_wp2_with (go_at_call 66; first | ((with_reducible refine (HN.out _ (HK.out _)).mono ?_); rintro e w1 ⟨rfl, rfl⟩) | ((with_reducible refine (HD.out _ (HK.out _)).mono ?_); rintro e w1 ⟨rfl, rfl⟩))
  go_wp2
  go_ret
  exact ⟨rfl, HK.out _⟩

set_option maxRecDepth 20000 in
set_option maxHeartbeats 1000000 in
/-- A denominator of 1. -/
theorem valid_c {w : World} {p : Bool} {a b : Value} {n : Nat} (ha : M w a n) (hb : M w b 1) :
    Calls Tryz.prog 17 #[.agg #[.bool p, a, b]] w fun e w' => e = .returned (.bool false) ∧ Kp w w' := by
  have HN := Lib.hid (fun w' (kk : Kp w w') => nvalid_q (ha.kp kk))
  have HD := Lib.hid (fun w' (kk : Kp w w') => nvalid_q (hb.kp kk))
  have HI := Lib.hid (fun w' (kk : Kp w w') => isOne_any (hb.kp kk))
  rw [show decide (1 = 1) = true from rfl] at HI
  obtain ⟨a1, l1, c1, rfl⟩ := m_slice ha
  obtain ⟨a2, l2, c2, rfl⟩ := m_slice hb
  have HK := Lib.hid (fun o1 => Kp.alloc w o1)
  clear ha hb
  go_enter Tryz.func17, Tryz.ntmps17
  go_wp2_with (first
    | (go_at_call 66; first | ((with_reducible refine (HN.out _ (HK.out _)).mono ?_); rintro e w1 ⟨rfl, rfl⟩) | ((with_reducible refine (HD.out _ (HK.out _)).mono ?_); rintro e w1 ⟨rfl, rfl⟩))
    | (go_at_call 67; (with_reducible refine (HI.out _ (HK.out _)).mono ?_); rintro e w1 ⟨rfl, rfl⟩))
  go_wp2
  go_ret
  exact ⟨rfl, HK.out _⟩

set_option maxRecDepth 20000 in
set_option maxHeartbeats 1000000 in
/-- A numerator of 0. -/
theorem valid_z {w : World} {p : Bool} {a b : Value} {k : Nat} (ha : M w a 0) (hb : M w b k) (h1 : k ≠ 1) :
    Calls Tryz.prog 17 #[.agg #[.bool p, a, b]] w fun e w' => e = .returned (.bool (!p && decide (k = 0))) ∧ Kp w w' := by
  have HN := Lib.hid (fun w' (kk : Kp w w') => nvalid_q (ha.kp kk))
  have HD := Lib.hid (fun w' (kk : Kp w w') => nvalid_q (hb.kp kk))
  have HI := Lib.hid (fun w' (kk : Kp w w') => isOne_any (hb.kp kk))
  rw [decide_eq_false h1] at HI
  have HLB : ∀ o l c, b = .slice o l c → (l = 0 ↔ k = 0) := by
    intro o l c e; subst e
    obtain ⟨o', c', e', _⟩ := hb
    have := (by simpa using e' : o = o' ∧ l = (toL k).length ∧ c = c')
    rw [this.2.1]
    constructor
    · intro h; by_cases hk : k = 0
      · exact hk
      · exact absurd h (Nat.ne_of_gt (len_pos hk))
    · rintro rfl; rw [toL_zero]; rfl
  obtain ⟨a2, l2, c2, rfl⟩ := m_slice hb
  have hl := HLB _ _ _ rfl
  obtain ⟨ao, ac, rfl, h2, h3, _, _⟩ := ha
  simp only [toL_zero, List.length_nil] at HN HD HI h2 h3 ⊢
  have HK := Lib.hid (fun o1 => Kp.alloc w o1)
  by_cases h : k = 0
  · have e := hl.2 h
    subst e
    rw [decide_eq_true h]
    clear h1 hl HLB hb h
    cases p with
    | true =>
      go_enter Tryz.func17, Tryz.ntmps17
      go_wp2_with (first
        | (go_at_call 66; first | ((with_reducible refine (HN.out _ (HK.out _)).mono ?_); rintro e w1 ⟨rfl, rfl⟩) | ((with_reducible refine (HD.out _ (HK.out _)).mono ?_); rintro e w1 ⟨rfl, rfl⟩))
        | (go_at_call 67; (with_reducible refine (HI.out _ (HK.out _)).mono ?_); rintro e w1 ⟨rfl, rfl⟩))
      go_wp2
      go_ret
      exact ⟨rfl, HK.out _⟩
    | false =>
      go_enter Tryz.func17, Tryz.ntmps17
      go_wp2_with (first
        | (go_at_call 66; first | ((with_reducible refine (HN.out _ (HK.out _)).mono ?_); rintro e w1 ⟨rfl, rfl⟩) | ((with_reducible refine (HD.out _ (HK.out _)).mono ?_); rintro e w1 ⟨rfl, rfl⟩))
        | (go_at_call 67; (with_reducible refine (HI.out _ (HK.out _)).mono ?_); rintro e w1 ⟨rfl, rfl⟩))
      go_wp2
      go_ret
      exact ⟨rfl, HK.out _⟩
  · rw [decide_eq_false h]
    have hz : ((l2 : Int) == 0) = false := beq_eq_false_iff_ne.2 (by have : l2 ≠ 0 := fun e => h (hl.1 e); omega)
    clear h1 hl HLB hb h
    cases p with
    | true =>
      go_enter Tryz.func17, Tryz.ntmps17
      go_wp2_with (first
        | (go_at_call 66; first | ((with_reducible refine (HN.out _ (HK.out _)).mono ?_); rintro e w1 ⟨rfl, rfl⟩) | ((with_reducible refine (HD.out _ (HK.out _)).mono ?_); rintro e w1 ⟨rfl, rfl⟩))
        | (go_at_call 67; (with_reducible refine (HI.out _ (HK.out _)).mono ?_); rintro e w1 ⟨rfl, rfl⟩))
      go_wp2
      go_ret
      exact ⟨rfl, HK.out _⟩
    | false =>
      go_enter Tryz.func17, Tryz.ntmps17
      go_wp2_with (first
        | (go_at_call 66; first | ((with_reducible refine (HN.out _ (HK.out _)).mono ?_); rintro e w1 ⟨rfl, rfl⟩) | ((with_reducible refine (HD.out _ (HK.out _)).mono ?_); rintro e w1 ⟨rfl, rfl⟩))
        | (go_at_call 67; (with_reducible refine (HI.out _ (HK.out _)).mono ?_); rintro e w1 ⟨rfl, rfl⟩))
      go_wp2
      go_ret
      exact ⟨rfl, HK.out _⟩

set_option maxRecDepth 20000 in
set_option maxHeartbeats 1000000 in
/-- A numerator other than 0: the two have no common divisor. -/
theorem valid_g {w : World} {p : Bool} {a b : Value} {n k : Nat} (ha : M w a n) (hb : M w b k) (h0 : n ≠ 0) (h1 : k ≠ 1) {j : Nat} (hs : (toL n).length ≤ j) (hs2 : (toL (if k = 0 then 1 else k)).length ≤ j) (hk : j ≤ 17179869184) (hT : Tz w) :
    Calls Tryz.prog 17 #[.agg #[.bool p, a, b]] w fun e w' => e = .returned (.bool (Nat.gcd n (if k = 0 then 1 else k) == 1)) ∧ Kp w w' := by
  have HN := Lib.hid (fun w' (kk : Kp w w') => nvalid_q (ha.kp kk))
  have HD := Lib.hid (fun w' (kk : Kp w w') => nvalid_q (hb.kp kk))
  have HI := Lib.hid (fun w' (kk : Kp w w') => isOne_any (hb.kp kk))
  rw [decide_eq_false h1] at HI
  have HM := Lib.hid (fun w' (kk : Kp w w') => denominator_any (s := p) (ha.kp kk) (hb.kp kk))
  obtain ⟨d, hd⟩ : ∃ d, d = (if k = 0 then 1 else k) := ⟨_, rfl⟩
  rw [← hd] at HM hs2 ⊢
  have HC := Lib.hid (fun w' vd (kk : Kp w w') (m : M w' vd d) => common_any (ha.kp kk) m (Nat.le_trans hs hk) (Nat.le_trans hs2 hk) (hT.kp kk))
  obtain ⟨g, hg⟩ : ∃ g, g = Nat.gcd n d := ⟨_, rfl⟩
  rw [← hg] at HC ⊢
  have HO := Lib.hid (fun w' vg (m : M w' vg g) => isOne_any m)
  obtain ⟨t, ht⟩ : ∃ t, t = (g == 1) := ⟨_, rfl⟩
  rw [show decide (g = 1) = (g == 1) from rfl, ← ht] at HO
  rw [← ht]
  have hl := len_pos h0
  obtain ⟨ao, ac, rfl, a1, a2, _, _⟩ := ha
  obtain ⟨bo, lb, bc, rfl⟩ := m_slice hb
  obtain ⟨la, hla⟩ : ∃ l, l = (toL n).length := ⟨_, rfl⟩
  rw [← hla] at a1 hl HN HC HM ⊢
  have hz : (((la : Nat) : Int) == 0) = false := by simp; omega
  have HK := Lib.hid (fun o1 => Kp.alloc w o1)
  have HPAR := Lib.hid (Res.new w (.bool p) (.slice ao la ac) (.slice bo lb bc))
  clear h0 hb hd hs hs2 hla ht hg hT h1
  go_enter Tryz.func17, Tryz.ntmps17
  go_wp2_with (first
    | (go_at_call 66; first | ((with_reducible refine (HN.out _ (HK.out _)).mono ?_); rintro e w1 ⟨rfl, rfl⟩) | ((with_reducible refine (HD.out _ (HK.out _)).mono ?_); rintro e w1 ⟨rfl, rfl⟩))
    | (go_at_call 67; (with_reducible refine (HI.out _ (HK.out _)).mono ?_); rintro e w1 ⟨rfl, rfl⟩))
  go_region_with (first
    | (go_at_call 61; (refine (HM.out _ (by repeat first | exact Below.refl _ _ | apply Kp.on | apply Kp.up)).mono ?_); rintro e w1 ⟨vd, rfl, hvd, K1⟩; have HVD := Lib.hid hvd; have HK1 := Lib.hid K1; obtain ⟨p0, p1, p2, _⟩ := ((HPAR.out.kp (Kp.on (Below.refl _ _))).kp K1).cells)
    | (go_at_call 68; (refine (HC.out _ _ ((HK.out _).on.tr HK1.out) HVD.out).mono ?_); rintro e w2 ⟨vg, rfl, hvg, K2⟩; have HVG := Lib.hid hvg; have HK2 := Lib.hid K2)
    | (go_at_call 67; (refine (HO.out _ _ HVG.out).mono ?_); rintro e w3 ⟨rfl, rfl⟩))
  all_goals go_wp2
  all_goals go_ret
  all_goals exact ⟨rfl, ((HK.out _).on.tr HK1.out).tr HK2.out⟩
end Go.Proofs.YtmnnnoeenfmckaaGreatDoor
