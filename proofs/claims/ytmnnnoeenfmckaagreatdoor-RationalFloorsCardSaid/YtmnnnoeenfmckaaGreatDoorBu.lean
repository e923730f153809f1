/-
  Several texts in one: Rq9.
-/
import Derived.Test.YtmnnnoeenfmckaaGreatDoorBr
import Derived.Test.YtmnnnoeenfmckaaGreatDoorBg

/-
  brepkernelref02.Floor: by walking its text.
-/
namespace Go.Proofs.YtmnnnoeenfmckaaGreatDoor
open Go.RowKit

theorem floor_parts (x : Rat) : ratOf (decide (x.num < 0)) (x.num.natAbs / x.den + (if decide (x.num < 0) = true ∧ x.num.natAbs % x.den ≠ 0 then 1 else 0)) 1 = (x.floor : Rat) := by
  have h := round_down x 0
  unfold roundQ downR downN at h
  simp only [Nat.pow_zero, Nat.mul_one, Int.natCast_one, Int.mul_one] at h
  rw [h, Rat.mkRat_one, Rat.floor_def]

/-- The digits behind the point, within their limits. -/
def scaleK (k : Int) : Nat := (min (max k 0) 4096).toNat
theorem scaleK_le (k : Int) : scaleK k ≤ 4096 := by unfold scaleK; omega

theorem sz_pow2 {n k : Nat} (h : n < 32 * k) : Sz k (2 ^ n) := by
  refine length_toL_le _ k ?_
  have h32 : (4294967296 : Nat) ^ k = 2 ^ (32 * k) := by rw [Nat.pow_mul]
  rw [h32]
  exact Nat.pow_lt_pow_right (by decide) h

theorem sz_pow {n : Nat} (h : n ≤ 4096) : Sz 129 (2 ^ n) := sz_pow2 (by omega)

theorem natCast_ratOf (n : Nat) : ratOf false n 1 = (n : Rat) := by
  unfold ratOf sg
  rw [if_neg (by decide), Rat.mkRat_one]
  rfl

theorem rsz_floor {k : Nat} {x : Rat} (h : RSz k x) : RSz (k + 1) (x.floor : Rat) := by
  rw [← floor_parts x]
  refine RSz.of_mkRat ?_ (Nat.le_trans (length_toL_le 1 1 (by decide)) (by omega)) (by decide)
  rw [sg_natAbs]
  have h1 : Sz k (x.num.natAbs / x.den) := h.1.le (Nat.div_le_self _ _)
  by_cases hk : k = 0
  · subst hk
    have h2 := h.1
    have h0 : x.num.natAbs = 0 := by
      unfold Sz at h2
      exact (toL_nil_iff _).1 (List.length_eq_zero_iff.1 (by omega))
    rw [h0]
    simp only [Nat.zero_div, Nat.zero_mod]
    exact length_toL_le _ 1 (by simp)
  · have h2 : Sz k 1 := Nat.le_trans (length_toL_le 1 1 (by decide)) (by omega)
    refine (h1.plus h2).le ?_
    split <;> omega

set_option maxRecDepth 20000 in
set_option maxHeartbeats 4000000 in
theorem rqfloor_any {w : World} {u : Value} {x : Rat} (hu : RatV w u x) {j : Nat} (hs : RSz j x) (hj : j ≤ 500000000) :
    Calls Tryz.prog 49 #[u] w fun e w' => ∃ r, e = .returned r ∧ RatV w' r ((x.floor : Rat)) ∧ Kp w w' := by
  rw [← floor_parts x]
  have S1 : Sz 1 1 := length_toL_le 1 1 (by decide)
  have SQ : Sz j (x.num.natAbs / x.den) := hs.1.le (Nat.div_le_self _ _)
  obtain ⟨a1, l1, c1, a2, l2, c2, rfl, m1, m2⟩ := hu.parts
  have HT := Lib.hid (One.new w (.bool (decide (x.num < 0))) (.slice a1 l1 c1) (.slice a2 l2 c2))
  have HU := Lib.hid hu
  have Hm1 := Lib.hid m1
  have Hm2 := Lib.hid m2
  have CDA := Lib.hid (fun w' (a : M w' (.slice a1 l1 c1) x.num.natAbs) (b : M w' (.slice a2 l2 c2) (denOf x)) => rden_m (s := decide (x.num < 0)) a b)
  have CD := Lib.hid (fun w' va vb (a : M w' va x.num.natAbs) (b : M w' vb x.den) => rdiv_any a b (by have := hs.1; unfold Sz at this; omega) x.den_nz)
  have CA := Lib.hid (fun w' va vb (a : M w' va (x.num.natAbs / x.den)) (b : M w' vb 1) => radd_any a b SQ S1 (by omega) (by omega))
  have CR1 := Lib.hid (fun w' s va vb (a : M w' va (x.num.natAbs / x.den + 1)) (b : M w' vb 1) => reduce_m (neg := s) a b (SQ.add S1) S1 (by omega) (by omega) (by decide))
  have CR0 := Lib.hid (fun w' s va vb (a : M w' va (x.num.natAbs / x.den)) (b : M w' vb 1) => reduce_m (neg := s) a b SQ S1 (by omega) (by omega) (by decide))
  obtain ⟨p, hp⟩ : ∃ b, b = decide (x.num < 0) := ⟨_, rfl⟩
  try rw [← hp] at HT
  try rw [← hp] at HU
  try rw [← hp] at Hm1
  try rw [← hp] at Hm2
  try rw [← hp] at CDA
  try rw [← hp] at CD
  try rw [← hp] at CA
  try rw [← hp] at CR1
  try rw [← hp] at CR0
  try rw [← hp]
  have HPp := Lib.hid hp
  clear hu m1 m2 hp
  obtain ⟨rr, hrr⟩ : ∃ r, r = x.num.natAbs % x.den := ⟨_, rfl⟩
  rw [← hrr] at CD ⊢
  clear hrr SQ S1 hs hj
  cases p
  · rw [if_neg (by simp), Nat.add_zero]
    go_enter Tryz.func49, Tryz.ntmps49
    have KN := HT.out.k
    have U_e := Lib.hid (HU.out.kp KN)
    have m1_e := Lib.hid (Hm1.out.kp KN)
    have m2_e := Lib.hid (Hm2.out.kp KN)
    clear KN
    obtain ⟨g0, g1, g2, _⟩ := HT.out.ra.cells
    go_upto_region 1 with fail
    have T_2 := Lib.hid (HT.out.kp (Below.refl _ _).drew)
    have U_2 := Lib.hid (U_e.out.kp (Below.refl _ _).drew)
    have m1_2 := Lib.hid (m1_e.out.kp (Below.refl _ _).drew)
    have m2_2 := Lib.hid (m2_e.out.kp (Below.refl _ _).drew)
    clear HT U_e m1_e m2_e
    go_region_held3 (fun w' => w'.cell? ⟨w.heap.size, 0, none⟩ = some (.bool false) ∧ w'.cell? ⟨w.heap.size, 1, none⟩ = some (.slice a1 l1 c1) ∧ w'.cell? ⟨w.heap.size, 2, none⟩ = some (.slice a2 l2 c2))
      (first | (refine ⟨?_, ?_, ?_⟩ <;> assumption) | go_keep)
      (first
        | (go_at_call 65; (with_reducible refine (CDA.out _ m1_2.out m2_2.out).mono ?_); rintro e w3 ⟨vA, rfl, hA, k3⟩; have T_3 := Lib.hid (T_2.out.kp k3); have U_3 := Lib.hid (U_2.out.kp k3); have m1_3 := Lib.hid (m1_2.out.kp k3); have m2_3 := Lib.hid (m2_2.out.kp k3); clear T_2 U_2 m1_2 m2_2; have A_3 := Lib.hid hA; clear hA k3; obtain ⟨g0, g1, g2, _⟩ := T_3.out.ra.cells)
        | (go_at_call 85; (with_reducible refine (CD.out _ _ _ m1_3.out A_3.out).mono ?_); rintro e w4 ⟨vq, vr9, rfl, hq9, hr9, k4⟩; have T_4 := Lib.hid (T_3.out.kp k4); have U_4 := Lib.hid (U_3.out.kp k4); have m1_4 := Lib.hid (m1_3.out.kp k4); have m2_4 := Lib.hid (m2_3.out.kp k4); have A_4 := Lib.hid (A_3.out.kp k4); clear T_3 U_3 m1_3 m2_3 A_3; have QQ_4 := Lib.hid hq9; have RR_4 := Lib.hid hr9; clear hq9 hr9 k4; obtain ⟨g0, g1, g2, _⟩ := T_4.out.ra.cells))
    obtain ⟨o8, l8, c8, rfl⟩ := m_slice RR_4.out
    have hl8 := m_len_zero RR_4.out
    clear hl8
    have M2 := Lib.hid (m_one_q _ _ 0 1 (cell_of_row _ _ 0 _ _ _ (heap_alloc_new w4 (Obj.cells #[Value.int IntKind.u32 1] 55))) (Nat.le_refl _) (by decide))
    have T_5 := Lib.hid (T_4.out.kp (Kp.alloc _ (Obj.cells #[Value.int IntKind.u32 1] 55)))
    have U_5 := Lib.hid (U_4.out.kp (Kp.alloc _ (Obj.cells #[Value.int IntKind.u32 1] 55)))
    have m1_5 := Lib.hid (m1_4.out.kp (Kp.alloc _ (Obj.cells #[Value.int IntKind.u32 1] 55)))
    have m2_5 := Lib.hid (m2_4.out.kp (Kp.alloc _ (Obj.cells #[Value.int IntKind.u32 1] 55)))
    have A_5 := Lib.hid (A_4.out.kp (Kp.alloc _ (Obj.cells #[Value.int IntKind.u32 1] 55)))
    have QQ_5 := Lib.hid (QQ_4.out.kp (Kp.alloc _ (Obj.cells #[Value.int IntKind.u32 1] 55)))
    have RR_5 := Lib.hid (RR_4.out.kp (Kp.alloc _ (Obj.cells #[Value.int IntKind.u32 1] 55)))
    clear T_4 U_4 m1_4 m2_4 A_4 QQ_4 RR_4
    obtain ⟨g0, g1, g2, _⟩ := T_5.out.ra.cells
    go_wp2_with (go_at_call 64; (with_reducible refine (CR0.out _ _ _ _ QQ_5.out M2.out).mono ?_); rintro e w6 ⟨vr, rfl, hvr, k6⟩; refine Hid.out ?_)
    refine Lib.hid ?_
    have T_6 := Lib.hid (T_5.out.kp k6)
    have U_6 := Lib.hid (U_5.out.kp k6)
    have m1_6 := Lib.hid (m1_5.out.kp k6)
    have m2_6 := Lib.hid (m2_5.out.kp k6)
    have A_6 := Lib.hid (A_5.out.kp k6)
    have QQ_6 := Lib.hid (QQ_5.out.kp k6)
    have RR_6 := Lib.hid (RR_5.out.kp k6)
    clear T_5 U_5 m1_5 m2_5 A_5 QQ_5 RR_5
    clear k6
    obtain ⟨sgn, q1, r1, s1, q2, r2, s2, rfl⟩ := hvr.lit
    obtain ⟨⟨e0, e1, e2, f0, f1, f2⟩, HPP, HV, HKF⟩ := rat_ends T_6.out.rr T_6.out.k (Below.refl _ _) hvr (by omega)
    clear hvr
    obtain ⟨k0, k1, k2⟩ := HPP.out
    go_wp2
    exact bodyPost_ret (v := .agg #[.bool sgn, .slice q1 r1 s1, .slice q2 r2 s2]) (by simp [results, Tryz.results49, go_sem, k0, k1, k2]) rfl ⟨_, rfl, HV.out, HKF.out⟩
  · by_cases hr0 : rr = 0
    · rw [if_neg (by simp [hr0]), Nat.add_zero]
      go_enter Tryz.func49, Tryz.ntmps49
      have KN := HT.out.k
      have U_e := Lib.hid (HU.out.kp KN)
      have m1_e := Lib.hid (Hm1.out.kp KN)
      have m2_e := Lib.hid (Hm2.out.kp KN)
      clear KN
      obtain ⟨g0, g1, g2, _⟩ := HT.out.ra.cells
      go_upto_region 1 with fail
      have T_2 := Lib.hid (HT.out.kp (Below.refl _ _).drew)
      have U_2 := Lib.hid (U_e.out.kp (Below.refl _ _).drew)
      have m1_2 := Lib.hid (m1_e.out.kp (Below.refl _ _).drew)
      have m2_2 := Lib.hid (m2_e.out.kp (Below.refl _ _).drew)
      clear HT U_e m1_e m2_e
      go_region_held3 (fun w' => w'.cell? ⟨w.heap.size, 0, none⟩ = some (.bool true) ∧ w'.cell? ⟨w.heap.size, 1, none⟩ = some (.slice a1 l1 c1) ∧ w'.cell? ⟨w.heap.size, 2, none⟩ = some (.slice a2 l2 c2))
        (first | (refine ⟨?_, ?_, ?_⟩ <;> assumption) | go_keep)
        (first
          | (go_at_call 65; (with_reducible refine (CDA.out _ m1_2.out m2_2.out).mono ?_); rintro e w3 ⟨vA, rfl, hA, k3⟩; have T_3 := Lib.hid (T_2.out.kp k3); have U_3 := Lib.hid (U_2.out.kp k3); have m1_3 := Lib.hid (m1_2.out.kp k3); have m2_3 := Lib.hid (m2_2.out.kp k3); clear T_2 U_2 m1_2 m2_2; have A_3 := Lib.hid hA; clear hA k3; obtain ⟨g0, g1, g2, _⟩ := T_3.out.ra.cells)
          | (go_at_call 85; (with_reducible refine (CD.out _ _ _ m1_3.out A_3.out).mono ?_); rintro e w4 ⟨vq, vr9, rfl, hq9, hr9, k4⟩; have T_4 := Lib.hid (T_3.out.kp k4); have U_4 := Lib.hid (U_3.out.kp k4); have m1_4 := Lib.hid (m1_3.out.kp k4); have m2_4 := Lib.hid (m2_3.out.kp k4); have A_4 := Lib.hid (A_3.out.kp k4); clear T_3 U_3 m1_3 m2_3 A_3; have QQ_4 := Lib.hid hq9; have RR_4 := Lib.hid hr9; clear hq9 hr9 k4; obtain ⟨g0, g1, g2, _⟩ := T_4.out.ra.cells))
      obtain ⟨o8, l8, c8, rfl⟩ := m_slice RR_4.out
      have hl8 := m_len_zero RR_4.out
      obtain rfl := hl8.2 hr0
      clear hl8 hr0
      have M2 := Lib.hid (m_one_q _ _ 0 1 (cell_of_row _ _ 0 _ _ _ (heap_alloc_new w4 (Obj.cells #[Value.int IntKind.u32 1] 55))) (Nat.le_refl _) (by decide))
      have T_5 := Lib.hid (T_4.out.kp (Kp.alloc _ (Obj.cells #[Value.int IntKind.u32 1] 55)))
      have U_5 := Lib.hid (U_4.out.kp (Kp.alloc _ (Obj.cells #[Value.int IntKind.u32 1] 55)))
      have m1_5 := Lib.hid (m1_4.out.kp (Kp.alloc _ (Obj.cells #[Value.int IntKind.u32 1] 55)))
      have m2_5 := Lib.hid (m2_4.out.kp (Kp.alloc _ (Obj.cells #[Value.int IntKind.u32 1] 55)))
      have A_5 := Lib.hid (A_4.out.kp (Kp.alloc _ (Obj.cells #[Value.int IntKind.u32 1] 55)))
      have QQ_5 := Lib.hid (QQ_4.out.kp (Kp.alloc _ (Obj.cells #[Value.int IntKind.u32 1] 55)))
      have RR_5 := Lib.hid (RR_4.out.kp (Kp.alloc _ (Obj.cells #[Value.int IntKind.u32 1] 55)))
      clear T_4 U_4 m1_4 m2_4 A_4 QQ_4 RR_4
      obtain ⟨g0, g1, g2, _⟩ := T_5.out.ra.cells
      go_wp2_with (go_at_call 64; (with_reducible refine (CR0.out _ _ _ _ QQ_5.out M2.out).mono ?_); rintro e w6 ⟨vr, rfl, hvr, k6⟩; refine Hid.out ?_)
      refine Lib.hid ?_
      have T_6 := Lib.hid (T_5.out.kp k6)
      have U_6 := Lib.hid (U_5.out.kp k6)
      have m1_6 := Lib.hid (m1_5.out.kp k6)
      have m2_6 := Lib.hid (m2_5.out.kp k6)
      have A_6 := Lib.hid (A_5.out.kp k6)
      have QQ_6 := Lib.hid (QQ_5.out.kp k6)
      have RR_6 := Lib.hid (RR_5.out.kp k6)
      clear T_5 U_5 m1_5 m2_5 A_5 QQ_5 RR_5
      clear k6
      obtain ⟨sgn, q1, r1, s1, q2, r2, s2, rfl⟩ := hvr.lit
      obtain ⟨⟨e0, e1, e2, f0, f1, f2⟩, HPP, HV, HKF⟩ := rat_ends T_6.out.rr T_6.out.k (Below.refl _ _) hvr (by omega)
      clear hvr
      obtain ⟨k0, k1, k2⟩ := HPP.out
      go_wp2
      exact bodyPost_ret (v := .agg #[.bool sgn, .slice q1 r1 s1, .slice q2 r2 s2]) (by simp [results, Tryz.results49, go_sem, k0, k1, k2]) rfl ⟨_, rfl, HV.out, HKF.out⟩
    · rw [if_pos ⟨rfl, hr0⟩]
      go_enter Tryz.func49, Tryz.ntmps49
      have KN := HT.out.k
      have U_e := Lib.hid (HU.out.kp KN)
      have m1_e := Lib.hid (Hm1.out.kp KN)
      have m2_e := Lib.hid (Hm2.out.kp KN)
      clear KN
      obtain ⟨g0, g1, g2, _⟩ := HT.out.ra.cells
      go_upto_region 1 with fail
      have T_2 := Lib.hid (HT.out.kp (Below.refl _ _).drew)
      have U_2 := Lib.hid (U_e.out.kp (Below.refl _ _).drew)
      have m1_2 := Lib.hid (m1_e.out.kp (Below.refl _ _).drew)
      have m2_2 := Lib.hid (m2_e.out.kp (Below.refl _ _).drew)
      clear HT U_e m1_e m2_e
      go_region_held3 (fun w' => w'.cell? ⟨w.heap.size, 0, none⟩ = some (.bool true) ∧ w'.cell? ⟨w.heap.size, 1, none⟩ = some (.slice a1 l1 c1) ∧ w'.cell? ⟨w.heap.size, 2, none⟩ = some (.slice a2 l2 c2))
        (first | (refine ⟨?_, ?_, ?_⟩ <;> assumption) | go_keep)
        (first
          | (go_at_call 65; (with_reducible refine (CDA.out _ m1_2.out m2_2.out).mono ?_); rintro e w3 ⟨vA, rfl, hA, k3⟩; have T_3 := Lib.hid (T_2.out.kp k3); have U_3 := Lib.hid (U_2.out.kp k3); have m1_3 := Lib.hid (m1_2.out.kp k3); have m2_3 := Lib.hid (m2_2.out.kp k3); clear T_2 U_2 m1_2 m2_2; have A_3 := Lib.hid hA; clear hA k3; obtain ⟨g0, g1, g2, _⟩ := T_3.out.ra.cells)
          | (go_at_call 85; (with_reducible refine (CD.out _ _ _ m1_3.out A_3.out).mono ?_); rintro e w4 ⟨vq, vr9, rfl, hq9, hr9, k4⟩; have T_4 := Lib.hid (T_3.out.kp k4); have U_4 := Lib.hid (U_3.out.kp k4); have m1_4 := Lib.hid (m1_3.out.kp k4); have m2_4 := Lib.hid (m2_3.out.kp k4); have A_4 := Lib.hid (A_3.out.kp k4); clear T_3 U_3 m1_3 m2_3 A_3; have QQ_4 := Lib.hid hq9; have RR_4 := Lib.hid hr9; clear hq9 hr9 k4; obtain ⟨g0, g1, g2, _⟩ := T_4.out.ra.cells))
      obtain ⟨o8, l8, c8, rfl⟩ := m_slice RR_4.out
      have hl8 := m_len_zero RR_4.out
      have hl80 : 0 < l8 := by omega
      clear hl8 hr0
      have M1 := Lib.hid (m_one_q _ _ 0 1 (cell_of_row _ _ 0 _ _ _ (heap_alloc_new w4 (Obj.cells #[Value.int IntKind.u32 1] 55))) (Nat.le_refl _) (by decide))
      have T_5 := Lib.hid (T_4.out.kp (Kp.alloc _ (Obj.cells #[Value.int IntKind.u32 1] 55)))
      have U_5 := Lib.hid (U_4.out.kp (Kp.alloc _ (Obj.cells #[Value.int IntKind.u32 1] 55)))
      have m1_5 := Lib.hid (m1_4.out.kp (Kp.alloc _ (Obj.cells #[Value.int IntKind.u32 1] 55)))
      have m2_5 := Lib.hid (m2_4.out.kp (Kp.alloc _ (Obj.cells #[Value.int IntKind.u32 1] 55)))
      have A_5 := Lib.hid (A_4.out.kp (Kp.alloc _ (Obj.cells #[Value.int IntKind.u32 1] 55)))
      have QQ_5 := Lib.hid (QQ_4.out.kp (Kp.alloc _ (Obj.cells #[Value.int IntKind.u32 1] 55)))
      have RR_5 := Lib.hid (RR_4.out.kp (Kp.alloc _ (Obj.cells #[Value.int IntKind.u32 1] 55)))
      clear T_4 U_4 m1_4 m2_4 A_4 QQ_4 RR_4
      go_wp2_with (go_at_call 79; (with_reducible refine (CA.out _ _ _ QQ_5.out M1.out).mono ?_); rintro e w6 ⟨va9, rfl, ha9, k6⟩; refine Hid.out ?_)
      refine Lib.hid ?_
      have T_6 := Lib.hid (T_5.out.kp k6)
      have U_6 := Lib.hid (U_5.out.kp k6)
      have m1_6 := Lib.hid (m1_5.out.kp k6)
      have m2_6 := Lib.hid (m2_5.out.kp k6)
      have A_6 := Lib.hid (A_5.out.kp k6)
      have QQ_6 := Lib.hid (QQ_5.out.kp k6)
      have RR_6 := Lib.hid (RR_5.out.kp k6)
      clear T_5 U_5 m1_5 m2_5 A_5 QQ_5 RR_5
      have AA_6 := Lib.hid ha9
      clear ha9 k6
      obtain ⟨g0, g1, g2, _⟩ := T_6.out.ra.cells
      have M2 := Lib.hid (m_one_q _ _ 0 1 (cell_of_row _ _ 0 _ _ _ (heap_alloc_new w6 (Obj.cells #[Value.int IntKind.u32 1] 55))) (Nat.le_refl _) (by decide))
      have T_7 := Lib.hid (T_6.out.kp (Kp.alloc _ (Obj.cells #[Value.int IntKind.u32 1] 55)))
      have U_7 := Lib.hid (U_6.out.kp (Kp.alloc _ (Obj.cells #[Value.int IntKind.u32 1] 55)))
      have m1_7 := Lib.hid (m1_6.out.kp (Kp.alloc _ (Obj.cells #[Value.int IntKind.u32 1] 55)))
      have m2_7 := Lib.hid (m2_6.out.kp (Kp.alloc _ (Obj.cells #[Value.int IntKind.u32 1] 55)))
      have A_7 := Lib.hid (A_6.out.kp (Kp.alloc _ (Obj.cells #[Value.int IntKind.u32 1] 55)))
      have QQ_7 := Lib.hid (QQ_6.out.kp (Kp.alloc _ (Obj.cells #[Value.int IntKind.u32 1] 55)))
      have RR_7 := Lib.hid (RR_6.out.kp (Kp.alloc _ (Obj.cells #[Value.int IntKind.u32 1] 55)))
      have AA_7 := Lib.hid (AA_6.out.kp (Kp.alloc _ (Obj.cells #[Value.int IntKind.u32 1] 55)))
      clear T_6 U_6 m1_6 m2_6 A_6 QQ_6 RR_6 AA_6
      obtain ⟨g0, g1, g2, _⟩ := T_7.out.ra.cells
      go_wp2_with (go_at_call 64; (with_reducible refine (CR1.out _ _ _ _ AA_7.out M2.out).mono ?_); rintro e w8 ⟨vr, rfl, hvr, k8⟩; refine Hid.out ?_)
      refine Lib.hid ?_
      have T_8 := Lib.hid (T_7.out.kp k8)
      have U_8 := Lib.hid (U_7.out.kp k8)
      have m1_8 := Lib.hid (m1_7.out.kp k8)
      have m2_8 := Lib.hid (m2_7.out.kp k8)
      have A_8 := Lib.hid (A_7.out.kp k8)
      have QQ_8 := Lib.hid (QQ_7.out.kp k8)
      have RR_8 := Lib.hid (RR_7.out.kp k8)
      have AA_8 := Lib.hid (AA_7.out.kp k8)
      clear T_7 U_7 m1_7 m2_7 A_7 QQ_7 RR_7 AA_7
      clear k8
      obtain ⟨sgn, q1, r1, s1, q2, r2, s2, rfl⟩ := hvr.lit
      obtain ⟨⟨e0, e1, e2, f0, f1, f2⟩, HPP, HV, HKF⟩ := rat_ends T_8.out.rr T_8.out.k (Below.refl _ _) hvr (by omega)
      clear hvr
      obtain ⟨k0, k1, k2⟩ := HPP.out
      go_wp2
      exact bodyPost_ret (v := .agg #[.bool sgn, .slice q1 r1 s1, .slice q2 r2 s2]) (by simp [results, Tryz.results49, go_sem, k0, k1, k2]) rfl ⟨_, rfl, HV.out, HKF.out⟩
end Go.Proofs.YtmnnnoeenfmckaaGreatDoor
