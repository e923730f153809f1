/-
  brepkernelref01.Div: by walking its text: the short ways, and all.
-/
import Derived.Test.YtijadodleiiomaaDoorRDiv
namespace Go.Proofs.YtijadodleiiomaaDoor
open Go.RowKit

theorem rdiv_zero {w : World} {a b : Value} {A B : Nat} (ha : M w a A) (hb : M w b B) (h0 : B = 0) :
    Calls Tryd.prog 30 #[a, b] w fun e w' => e = .returned (.tuple #[.slice none 0 0, .slice none 0 0, .int .i64 3]) ∧ Kp w w' := by
  subst h0
  obtain ⟨ao, ac, rfl, a1, a2, a3, a4⟩ := ha
  obtain ⟨bo, bc, rfl, b1, b2, b3, b4⟩ := hb
  rw [toL_zero]
  clear a1 a2 a3 a4 b1 b2 b3 b4
  go_enter Tryd.func30, Tryd.ntmps30
  go_wp2
  go_ret3
  exact ⟨rfl, Below.refl _ _⟩

set_option maxRecDepth 20000 in
set_option maxHeartbeats 1000000 in
theorem rdiv_less {w : World} {a b : Value} {A B : Nat} (ha : M w a A) (hb : M w b B) (hlA : (toL A).length ≤ 1073741824) (h : A < B) :
    Calls Tryd.prog 30 #[a, b] w fun e w' => ∃ q r, e = .returned (.tuple #[q, r, .int .i64 0]) ∧ M w' q (A / B) ∧ M w' r (A % B) ∧ Kp w w' := by
  have HC := Lib.hid (rcmp_any a b A B w ha hb)
  rw [cmpv_lt h] at HC
  rw [Nat.div_eq_of_lt h, Nat.mod_eq_of_lt h]
  have HT := Lib.hid (fun w' (k : Kp w w') => rtrim_m (ha.kp k) (by omega))
  have hB0 : 0 < (toL B).length := by
    rcases Nat.eq_zero_or_pos (toL B).length with e | e
    · have := (toL_nil_iff B).1 (List.length_eq_zero_iff.1 e)
      omega
    · exact e
  obtain ⟨bo, bc, rfl, b1, b2, b3, b4⟩ := hb
  unfold maxLen at b2
  obtain ⟨lb, hlb⟩ : ∃ l, l = (toL B).length := ⟨_, rfl⟩
  rw [← hlb] at HC b1 hB0 ⊢
  have hne : ((lb : Int) == 0) = false := beq_eq_false_iff_ne.2 (by omega)
  clear hlb b3 b4 h ha
  go_enter Tryd.func30, Tryd.ntmps30
  go_wp2_with (go_at_call 17; (with_reducible refine HC.out.mono ?_); rintro e w1 ⟨rfl, K1⟩; refine Hid.out ?_)
  refine Lib.hid ?_
  have HT1 := Lib.hid (HT.out w1 K1)
  go_wp2_with (go_at_call 39; (with_reducible refine HT1.out.mono ?_); rintro e w2 ⟨v2, rfl, h2, K2⟩; refine Hid.out ?_)
  refine Lib.hid ?_
  go_wp2
  go_ret3
  exact ⟨_, _, rfl, m_nil _, h2, K1.tr K2⟩

set_option maxRecDepth 20000 in
set_option maxHeartbeats 1000000 in
theorem rdiv_small {w : World} {a b : Value} {A B : Nat} (ha : M w a A) (hb : M w b B) (hlA : (toL A).length ≤ 2) (hB : 0 < B) (h : B ≤ A) :
    Calls Tryd.prog 30 #[a, b] w fun e w' => ∃ q r, e = .returned (.tuple #[q, r, .int .i64 0]) ∧ M w' q (A / B) ∧ M w' r (A % B) ∧ Kp w w' := by
  have HC := Lib.hid (rcmp_any a b A B w ha hb)
  have hcv := cmpv_ge h
  obtain ⟨cv, hcv0⟩ : ∃ cv, cv = cmpv A B := ⟨_, rfl⟩
  rw [← hcv0] at HC hcv
  have hlB := Nat.le_trans (length_mono _ _ h) hlA
  have HSA := Lib.hid (fun w' (k : Kp w w') => rsmall_yes (ha.kp k) hlA)
  have HSB := Lib.hid (fun w' (k : Kp w w') => rsmall_yes (hb.kp k) hlB)
  have hAlt := lt_two hlA
  have hB0 : 0 < (toL B).length := by
    rcases Nat.eq_zero_or_pos (toL B).length with e | e
    · have := (toL_nil_iff B).1 (List.length_eq_zero_iff.1 e)
      omega
    · exact e
  obtain ⟨q, hq⟩ : ∃ q, q = A / B := ⟨_, rfl⟩
  obtain ⟨r, hr⟩ : ∃ r, r = A % B := ⟨_, rfl⟩
  have hqA : q ≤ A := by rw [hq]; exact Nat.div_le_self _ _
  have hrA : r < B := by rw [hr]; exact Nat.mod_lt _ hB
  rw [← hq, ← hr]
  have htd : (A : Int).tdiv (B : Int) = (q : Int) := by rw [tdivN, hq]
  have htm : (A : Int).tmod (B : Int) = (r : Int) := by rw [hr]; rfl
  have hqw : IntKind.u64.wrap (q : Int) = (q : Int) := IntWalk.u64_in _ (by omega)
  have hrw : IntKind.u64.wrap (r : Int) = (r : Int) := IntWalk.u64_in _ (by omega)
  have HOQ := Lib.hid (fun w' => rof_any q w' (by omega))
  have HOR := Lib.hid (fun w' => rof_any r w' (by omega))
  obtain ⟨bo, bc, rfl, b1, b2, b3, b4⟩ := hb
  unfold maxLen at b2
  obtain ⟨lb, hlb⟩ : ∃ l, l = (toL B).length := ⟨_, rfl⟩
  rw [← hlb] at HC HSB b1 hB0 ⊢
  have hne : ((lb : Int) == 0) = false := beq_eq_false_iff_ne.2 (by omega)
  clear hlb b3 b4 h ha hq hr hcv0
  go_enter Tryd.func30, Tryd.ntmps30
  go_wp2_with (go_at_call 17; (with_reducible refine HC.out.mono ?_); rintro e w1 ⟨rfl, K1⟩; refine Hid.out ?_)
  refine Lib.hid ?_
  have HS1 := Lib.hid (HSA.out w1 K1)
  go_wp2_with (go_at_call 51; (with_reducible refine HS1.out.mono ?_); rintro e w2 ⟨rfl, K2⟩; refine Hid.out ?_)
  refine Lib.hid ?_
  have HS2 := Lib.hid (HSB.out w2 (K1.tr K2))
  go_wp2_with (go_at_call 51; (with_reducible refine HS2.out.mono ?_); rintro e w3 ⟨rfl, K3⟩; refine Hid.out ?_)
  refine Lib.hid ?_
  go_wp2_with fail
  go_region_with (first
    | (go_at_call_of 22 (Value.int .u64 (q : Int)); refine (HOQ.out _).mono ?_; rintro e w5 ⟨v5, rfl, h5, K5⟩)
    | (go_at_call_of 22 (Value.int .u64 (r : Int)); refine (HOR.out _).mono ?_; rintro e w6 ⟨v6, rfl, h6, K6⟩))
  all_goals go_wp2_with fail
  all_goals go_ret3
  all_goals have K3d : Kp w w3.drew := ((K1.tr K2).tr K3).drew
  all_goals first
    | exact ⟨v5, v6, rfl, h5.kp K6, h6, (K3d.tr K5).tr K6⟩
    | exact ⟨v5, v6, rfl, h5, h6.kp K5, (K3d.tr K6).tr K5⟩

set_option maxRecDepth 20000 in
set_option maxHeartbeats 1000000 in
theorem rdiv_limb {w : World} {a b : Value} {A B : Nat} (ha : M w a A) (hb : M w b B) (hlA : (toL A).length ≤ 1073741824) (h3 : 2 < (toL A).length) (h1 : (toL B).length = 1) (h : B ≤ A) :
    Calls Tryd.prog 30 #[a, b] w fun e w' => ∃ q r, e = .returned (.tuple #[q, r, .int .i64 0]) ∧ M w' q (A / B) ∧ M w' r (A % B) ∧ Kp w w' := by
  have HC := Lib.hid (rcmp_any a b A B w ha hb)
  have hcv := cmpv_ge h
  obtain ⟨cv, hcv0⟩ : ∃ cv, cv = cmpv A B := ⟨_, rfl⟩
  rw [← hcv0] at HC hcv
  have HSA := Lib.hid (fun w' (k : Kp w w') => rsmall_no (ha.kp k) h3)
  have hBl : B < 4294967296 := by
    have := toL_lt B
    rw [h1] at this
    simpa using this
  have hB0 : 0 < B := by
    rcases Nat.eq_zero_or_pos B with e | e
    · rw [e, toL_zero] at h1; simp at h1
    · exact e
  have HBL := Lib.hid (fun w' (k : Kp w w') => byLimb_any a A B w' (ha.kp k) (by omega) hB0 hBl)
  have hr : A % B < 4294967296 := Nat.lt_trans (Nat.mod_lt _ hB0) hBl
  have HOR := Lib.hid (fun w' => rof_any (A % B) w' (by omega))
  obtain ⟨q, hq⟩ : ∃ q, q = A / B := ⟨_, rfl⟩
  obtain ⟨r, hrr⟩ : ∃ r, r = A % B := ⟨_, rfl⟩
  rw [← hq, ← hrr] at HBL ⊢
  rw [← hrr] at HOR hr
  obtain ⟨bo, bc, rfl, b1, b2, b3, b4⟩ := hb
  have ho := toL_one_limb h1
  obtain ⟨bb, boff, x, rfl, hcx, hx, HX⟩ := b4.at b3 0 (by omega)
  rw [ho] at HX
  obtain rfl : x = B := HX.out
  rw [Nat.add_zero] at hcx
  have HCX := Lib.hid (fun w' (k : Kp w w') => (k.cell (World.block_lt_of_cell? w _ hcx)).trans hcx)
  unfold maxLen at b2
  rw [h1] at HC b1 ⊢
  clear b3 b4 h ha hq hrr hcv0 ho HX hcx
  go_enter Tryd.func30, Tryd.ntmps30
  go_wp2_with (go_at_call 17; (with_reducible refine HC.out.mono ?_); rintro e w1 ⟨rfl, K1⟩; refine Hid.out ?_)
  refine Lib.hid ?_
  have HS1 := Lib.hid (HSA.out w1 K1)
  have hcw := HCX.out w1 K1
  go_wp2_with (go_at_call 51; (with_reducible refine HS1.out.mono ?_); rintro e w2 ⟨rfl, rfl⟩; refine Hid.out ?_)
  refine Lib.hid ?_
  have HB1 := Lib.hid (HBL.out w1 K1)
  go_wp2_with (go_at_call 52; (with_reducible refine HB1.out.mono ?_); rintro e w3 ⟨v3, k3, rfl, h3', K3⟩; refine Hid.out ?_)
  refine Lib.hid ?_
  have hm : M w3 v3 q := Rd.owned h3' (limbs_toL q)
  have HQ := Lib.hid hm
  clear hm h3'
  go_wp2_with (go_at_call 22; (with_reducible refine (HOR.out w3).mono ?_); rintro e w4 ⟨v4, rfl, h4, K4⟩; refine Hid.out ?_)
  refine Lib.hid ?_
  go_wp2
  go_ret3
  exact ⟨_, _, rfl, HQ.out.kp K4, h4, (K1.tr K3).tr K4⟩

/-- brepkernelref01.Div by a divisor other than 0. -/
theorem rdiv_any {w : World} {a b : Value} {A B : Nat} (ha : M w a A) (hb : M w b B) (hlA : (toL A).length ≤ 1073741824) (hB : B ≠ 0) :
    Calls Tryd.prog 30 #[a, b] w fun e w' => ∃ q r, e = .returned (.tuple #[q, r, .int .i64 0]) ∧ M w' q (A / B) ∧ M w' r (A % B) ∧ Kp w w' := by
  by_cases h : A < B
  · exact rdiv_less ha hb hlA h
  · by_cases h2 : (toL A).length ≤ 2
    · exact rdiv_small ha hb h2 (by omega) (by omega)
    · have hne : (toL B).length ≠ 0 := fun e => hB ((toL_nil_iff B).1 (List.length_eq_zero_iff.1 e))
      by_cases h1 : (toL B).length = 1
      · exact rdiv_limb ha hb hlA (by omega) h1 (by omega)
      · exact rdiv_long ha hb hlA (by omega) (by omega) (by omega)
end Go.Proofs.YtijadodleiiomaaDoor
