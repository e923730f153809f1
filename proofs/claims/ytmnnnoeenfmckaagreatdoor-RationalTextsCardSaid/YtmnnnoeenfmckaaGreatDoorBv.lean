/-
  Several texts in one: Rr, Q9, Rr2, Rn.
-/
import Derived.Test.YtmnnnoeenfmckaaGreatDoorBy
import Derived.Test.YtmnnnoeenfmckaaGreatDoorBr
import Derived.Test.YtmnnnoeenfmckaaGreatDoorBl
import Derived.Test.YtmnnnoeenfmckaaGreatDoorBp

/-
  Numbers of any limbs: denominators, magnitudes.
-/
namespace Go.Proofs.YtmnnnoeenfmckaaGreatDoor
open Go.RowKit

theorem rd_slice {w : World} {v : Value} {xs : List Nat} (h : Rd w v xs) : ∃ o l c, v = .slice o l c := by
  obtain ⟨o, c, e, _⟩ := h
  exact ⟨o, _, c, e⟩
theorem rd_len {w : World} {o : Option Addr} {l c : Nat} {xs : List Nat} (h : Rd w (.slice o l c) xs) : l = xs.length ∧ l ≤ c ∧ c ≤ maxLen := by
  obtain ⟨o', c', e, h1, h2, _⟩ := h
  have := (by simpa using e : o = o' ∧ l = xs.length ∧ c = c')
  obtain ⟨_, rfl, rfl⟩ := this
  exact ⟨rfl, h1, h2⟩
theorem rd_limbs {w : World} {v : Value} {xs : List Nat} (h : Rd w v xs) : Limbs xs := by
  obtain ⟨_, _, _, _, _, h, _⟩ := h
  exact h
theorem rd_one (w : World) : Rd (w.alloc (Obj.cells #[Value.int IntKind.u32 1] 55)) (.slice (some ⟨w.heap.size, 0, none⟩) 1 1) [1] := by
  have h := m_one_q _ _ 0 1 (cell_of_row _ _ 0 _ _ _ (heap_alloc_new w (Obj.cells #[Value.int IntKind.u32 1] 55))) (Nat.le_refl _) (by decide)
  unfold M at h
  rw [toL_one] at h
  exact h
/-- The denominator that limbs stand for. -/
def denL (ys : List Nat) : List Nat := if ys = [] then [1] else ys

set_option maxRecDepth 20000 in
set_option maxHeartbeats 4000000 in
theorem denraw_any {w : World} {p : Bool} {a b : Value} {xs ys : List Nat} (ha : Rd w a xs) (hb : Rd w b ys) :
    Calls Tryz.prog 61 #[.agg #[.bool p, a, b]] w fun e w' => ∃ v, e = .returned v ∧ Rd w' v (denL ys) ∧ Kp w w' := by
  obtain ⟨a1, l1, c1, rfl⟩ := rd_slice ha
  obtain ⟨a2, l2, c2, rfl⟩ := rd_slice hb
  have HT := Lib.hid (P1.new w (.bool p) (.slice a1 l1 c1) (.slice a2 l2 c2))
  have HA := Lib.hid ha
  have HB := Lib.hid hb
  have hlb := rd_len hb
  have hla := rd_len ha
  clear ha hb
  obtain ⟨hlb1, hlb2, hlb3⟩ := hlb
  by_cases h0 : ys = []
  · subst h0
    have hl0 : l2 = 0 := hlb1
    subst hl0
    clear hlb1 hlb2 hlb3 hla
    go_enter Tryz.func61, Tryz.ntmps61
    have KN := HT.out.k
    have RA_e := Lib.hid (HA.out.kp KN)
    have RB_e := Lib.hid (HB.out.kp KN)
    clear KN
    obtain ⟨g0, g1, g2, _⟩ := HT.out.ra.cells
    go_wp2
    go_ret
    exact ⟨_, rfl, by have h := rd_one (w.alloc (Obj.cells #[Value.bool p, Value.slice a1 l1 c1, Value.slice a2 0 c2] 27)); rw [World.size_alloc] at h; exact h, (Kp.alloc w _).tr (Kp.alloc _ _)⟩
  · have hl0 : l2 ≠ 0 := by
      rw [hlb1]
      exact fun e => h0 (List.length_eq_zero_iff.1 e)
    have hz : ((l2 : Int) == 0) = false := beq_eq_false_iff_ne.2 (by omega)
    have HDL := Lib.hid (show denL ys = ys from if_neg h0)
    clear hlb1 hlb2 hlb3 hla h0
    go_enter Tryz.func61, Tryz.ntmps61
    have KN := HT.out.k
    have RA_e := Lib.hid (HA.out.kp KN)
    have RB_e := Lib.hid (HB.out.kp KN)
    clear KN
    obtain ⟨g0, g1, g2, _⟩ := HT.out.ra.cells
    go_wp2
    go_ret
    exact ⟨_, rfl, by rw [HDL.out]; exact RB_e.out, HT.out.k⟩

set_option maxRecDepth 20000 in
set_option maxHeartbeats 4000000 in
theorem rdenraw_any {w : World} {p : Bool} {a b : Value} {xs ys : List Nat} (ha : Rd w a xs) (hb : Rd w b ys) :
    Calls Tryz.prog 65 #[.agg #[.bool p, a, b]] w fun e w' => ∃ v, e = .returned v ∧ Rd w' v (denL ys) ∧ Kp w w' := by
  obtain ⟨a1, l1, c1, rfl⟩ := rd_slice ha
  obtain ⟨a2, l2, c2, rfl⟩ := rd_slice hb
  have HT := Lib.hid (P1.new w (.bool p) (.slice a1 l1 c1) (.slice a2 l2 c2))
  have HA := Lib.hid ha
  have HB := Lib.hid hb
  have hlb := rd_len hb
  have hla := rd_len ha
  clear ha hb
  obtain ⟨hlb1, hlb2, hlb3⟩ := hlb
  by_cases h0 : ys = []
  · subst h0
    have hl0 : l2 = 0 := hlb1
    subst hl0
    clear hlb1 hlb2 hlb3 hla
    go_enter Tryz.func65, Tryz.ntmps65
    have KN := HT.out.k
    have RA_e := Lib.hid (HA.out.kp KN)
    have RB_e := Lib.hid (HB.out.kp KN)
    clear KN
    obtain ⟨g0, g1, g2, _⟩ := HT.out.ra.cells
    go_wp2
    go_ret
    exact ⟨_, rfl, by have h := rd_one (w.alloc (Obj.cells #[Value.bool p, Value.slice a1 l1 c1, Value.slice a2 0 c2] 27)); rw [World.size_alloc] at h; exact h, (Kp.alloc w _).tr (Kp.alloc _ _)⟩
  · have hl0 : l2 ≠ 0 := by
      rw [hlb1]
      exact fun e => h0 (List.length_eq_zero_iff.1 e)
    have hz : ((l2 : Int) == 0) = false := beq_eq_false_iff_ne.2 (by omega)
    have HDL := Lib.hid (show denL ys = ys from if_neg h0)
    clear hlb1 hlb2 hlb3 hla h0
    go_enter Tryz.func65, Tryz.ntmps65
    have KN := HT.out.k
    have RA_e := Lib.hid (HA.out.kp KN)
    have RB_e := Lib.hid (HB.out.kp KN)
    clear KN
    obtain ⟨g0, g1, g2, _⟩ := HT.out.ra.cells
    go_wp2
    go_ret
    exact ⟨_, rfl, by rw [HDL.out]; exact RB_e.out, HT.out.k⟩

theorem magnitude_m {w : World} {v : Value} {xs : List Nat} (h : Rd w v xs) :
    Calls Tryz.prog 60 #[v] w fun e w' => ∃ v', e = .returned v' ∧ M w v' (val xs) ∧ w = w' := by
  obtain ⟨o, c, rfl, h1, h2, h3, h4⟩ := id h
  refine (magnitude_at o xs.length c xs w rfl h1 h2 h4).mono ?_
  rintro e w' ⟨rfl, rfl⟩
  refine ⟨_, rfl, ?_, rfl⟩
  unfold M
  rw [toL_val h3]
  refine ⟨o, c, rfl, Nat.le_trans (length_trimL xs) h1, h2, limbs_trimL h3, ?_⟩
  rw [← trimL_take xs]
  exact h4.take _
end Go.Proofs.YtmnnnoeenfmckaaGreatDoor

/-
  rational.Norm: by walking its text.
-/
namespace Go.Proofs.YtmnnnoeenfmckaaGreatDoor
open Go.RowKit

/-- What any limbs stand for: no number where a denominator is there and is 0. -/
def normOk (ys : List Nat) : Prop := val (denL ys) ≠ 0
theorem rd_denL {w : World} {v : Value} {ys : List Nat} (_h : Rd w v ys) : (denL ys).length ≤ ys.length + 1 := by
  unfold denL
  split
  · simp
  · omega

set_option maxRecDepth 20000 in
set_option maxHeartbeats 4000000 in
theorem norm_zero {w : World} {p : Bool} {a b : Value} {xs ys : List Nat} (ha : Rd w a xs) (hb : Rd w b ys) (_hl : xs.length ≤ 1000000000) (_hl2 : ys.length ≤ 1000000000) (h0 : val (denL ys) = 0) :
    Calls Tryz.prog 15 #[.agg #[.bool p, a, b]] w fun e w' => e = .returned (.tuple #[.agg #[.bool false, .slice none 0 0, .slice none 0 0], .int .i64 3]) ∧ Kp w w' := by
  obtain ⟨a1, l1, c1, rfl⟩ := rd_slice ha
  obtain ⟨a2, l2, c2, rfl⟩ := rd_slice hb
  have HT := Lib.hid (One.new w (.bool p) (.slice a1 l1 c1) (.slice a2 l2 c2))
  have HA := Lib.hid ha
  have HB := Lib.hid hb
  have CM1 := Lib.hid (fun w' (a : Rd w' (.slice a1 l1 c1) xs) => magnitude_m a)
  have CD := Lib.hid (fun w' (a : Rd w' (.slice a1 l1 c1) xs) (b : Rd w' (.slice a2 l2 c2) ys) => denraw_any (p := p) a b)
  have CM2 := Lib.hid (fun w' v (a : Rd w' v (denL ys)) => magnitude_m a)
  have hlb := rd_len hb
  have hla := rd_len ha
  clear ha hb
  rw [h0] at CM2
  clear _hl _hl2 h0 hla hlb
  go_enter Tryz.func15, Tryz.ntmps15
  have KN := HT.out.k
  have RA_e := Lib.hid (HA.out.kp KN)
  have RB_e := Lib.hid (HB.out.kp KN)
  clear KN
  obtain ⟨g0, g1, g2, _⟩ := HT.out.ra.cells
  go_upto_region 1 with fail
  have T_2 := Lib.hid (HT.out.kp (Below.refl _ _).drew)
  have RA_2 := Lib.hid (RA_e.out.kp (Below.refl _ _).drew)
  have RB_2 := Lib.hid (RB_e.out.kp (Below.refl _ _).drew)
  clear HT RA_e RB_e
  go_region_held3 (fun w' => w'.cell? ⟨w.heap.size, 0, none⟩ = some (.bool p) ∧ w'.cell? ⟨w.heap.size, 1, none⟩ = some (.slice a1 l1 c1) ∧ w'.cell? ⟨w.heap.size, 2, none⟩ = some (.slice a2 l2 c2))
    (first | (refine ⟨?_, ?_, ?_⟩ <;> assumption) | go_keep)
    (first
      | (go_at_call 60; (with_reducible refine (CM1.out _ RA_2.out).mono ?_); rintro e w3 ⟨v1, rfl, n1, rfl⟩; obtain ⟨g0, g1, g2, _⟩ := T_2.out.ra.cells)
      | (go_at_call 61; (with_reducible refine (CD.out _ RA_2.out RB_2.out).mono ?_); rintro e w4 ⟨v2, rfl, n2, k4⟩; have T_4 := Lib.hid (T_2.out.kp k4); have RA_4 := Lib.hid (RA_2.out.kp k4); have RB_4 := Lib.hid (RB_2.out.kp k4); clear T_2 RA_2 RB_2; have DD_4 := Lib.hid n2; clear n2 k4; obtain ⟨g0, g1, g2, _⟩ := T_4.out.ra.cells)
      | (go_at_call 60; (with_reducible refine (CM2.out _ _ DD_4.out).mono ?_); rintro e w5 ⟨v3, rfl, n3, rfl⟩; have N3_5 := Lib.hid n3; clear n3; obtain ⟨g0, g1, g2, _⟩ := T_4.out.ra.cells))
  obtain ⟨o9, l9, c9, rfl⟩ := m_slice N3_5.out
  obtain rfl := (m_len_zero' N3_5.out).2 rfl
  obtain ⟨d0, d1, d2, f0, f1, f2⟩ := T_4.out.rr.cells
  have HPP := Lib.hid (T_4.out.rr.put (.bool false) (.slice none 0 0) (.slice none 0 0)).cells
  unfold stored at HPP
  go_wp2
  obtain ⟨k0, k1, k2, _⟩ := HPP.out
  exact bodyPost_ret (v := .tuple #[.agg #[.bool false, .slice none 0 0, .slice none 0 0], .int .i64 3]) (by simp [results, Tryz.results15, go_sem, k0, k1, k2]) rfl ⟨rfl, T_4.out.k.put3 (by omega) _ _ _⟩

set_option maxRecDepth 20000 in
set_option maxHeartbeats 4000000 in
theorem norm_some {w : World} {p : Bool} {a b : Value} {xs ys : List Nat} (ha : Rd w a xs) (hb : Rd w b ys) (hl : xs.length ≤ 1000000000) (hl2 : ys.length ≤ 1000000000) (h0 : val (denL ys) ≠ 0) (hT : Tz w) :
    Calls Tryz.prog 15 #[.agg #[.bool p, a, b]] w fun e w' => ∃ v, e = .returned (.tuple #[v, .int .i64 0]) ∧ RatV w' v (ratOf p (val xs) (val (denL ys))) ∧ Kp w w' := by
  have SX : Sz 1000000001 (val xs) := Sz.val (rd_limbs ha) _ (by omega)
  have hLD : Limbs (denL ys) := by unfold denL; split; exact Limbs.cons (by omega) Limbs.nil; exact rd_limbs hb
  have SY : Sz 1000000001 (val (denL ys)) := Sz.val hLD _ (Nat.le_trans (rd_denL hb) (by omega))
  obtain ⟨a1, l1, c1, rfl⟩ := rd_slice ha
  obtain ⟨a2, l2, c2, rfl⟩ := rd_slice hb
  have HT := Lib.hid (One.new w (.bool p) (.slice a1 l1 c1) (.slice a2 l2 c2))
  have HA := Lib.hid ha
  have HB := Lib.hid hb
  have CM1 := Lib.hid (fun w' (a : Rd w' (.slice a1 l1 c1) xs) => magnitude_m a)
  have CD := Lib.hid (fun w' (a : Rd w' (.slice a1 l1 c1) xs) (b : Rd w' (.slice a2 l2 c2) ys) => denraw_any (p := p) a b)
  have CM2 := Lib.hid (fun w' v (a : Rd w' v (denL ys)) => magnitude_m a)
  have CL := Lib.hid (fun w' va vb (a : M w' va (val xs)) (b : M w' vb (val (denL ys))) (t : Tz w') => lowest_any (neg := p) a b h0 (by unfold Sz at SX; omega) (by unfold Sz at SY; omega) t)
  have HZ := Lib.hid hT
  have hlb := rd_len hb
  have hla := rd_len ha
  clear ha hb hT
  have H0 := Lib.hid h0
  clear hl hl2 h0 hla hlb SX SY hLD
  go_enter Tryz.func15, Tryz.ntmps15
  have KN := HT.out.k
  have RA_e := Lib.hid (HA.out.kp KN)
  have RB_e := Lib.hid (HB.out.kp KN)
  have Z_e := Lib.hid (HZ.out.kp KN)
  clear KN
  obtain ⟨g0, g1, g2, _⟩ := HT.out.ra.cells
  go_upto_region 1 with fail
  have T_2 := Lib.hid (HT.out.kp (Below.refl _ _).drew)
  have RA_2 := Lib.hid (RA_e.out.kp (Below.refl _ _).drew)
  have RB_2 := Lib.hid (RB_e.out.kp (Below.refl _ _).drew)
  have Z_2 := Lib.hid (Z_e.out.kp (Below.refl _ _).drew)
  clear HT RA_e RB_e Z_e
  go_region_held3 (fun w' => w'.cell? ⟨w.heap.size, 0, none⟩ = some (.bool p) ∧ w'.cell? ⟨w.heap.size, 1, none⟩ = some (.slice a1 l1 c1) ∧ w'.cell? ⟨w.heap.size, 2, none⟩ = some (.slice a2 l2 c2))
    (first | (refine ⟨?_, ?_, ?_⟩ <;> assumption) | go_keep)
    (first
      | (go_at_call 60; (with_reducible refine (CM1.out _ RA_2.out).mono ?_); rintro e w3 ⟨v1, rfl, n1, rfl⟩; have N1_3 := Lib.hid n1; clear n1; obtain ⟨g0, g1, g2, _⟩ := T_2.out.ra.cells)
      | (go_at_call 61; (with_reducible refine (CD.out _ RA_2.out RB_2.out).mono ?_); rintro e w4 ⟨v2, rfl, n2, k4⟩; have T_4 := Lib.hid (T_2.out.kp k4); have RA_4 := Lib.hid (RA_2.out.kp k4); have RB_4 := Lib.hid (RB_2.out.kp k4); have Z_4 := Lib.hid (Z_2.out.kp k4); have N1_4 := Lib.hid (N1_3.out.kp k4); clear T_2 RA_2 RB_2 Z_2 N1_3; have DD_4 := Lib.hid n2; clear n2 k4; obtain ⟨g0, g1, g2, _⟩ := T_4.out.ra.cells)
      | (go_at_call 60; (with_reducible refine (CM2.out _ _ DD_4.out).mono ?_); rintro e w5 ⟨v3, rfl, n3, rfl⟩; have N3_5 := Lib.hid n3; clear n3; obtain ⟨g0, g1, g2, _⟩ := T_4.out.ra.cells))
  obtain ⟨o9, l9, c9, rfl⟩ := m_slice N3_5.out
  have hl9 : 0 < l9 := by have := m_len_zero' N3_5.out; have := H0.out; omega
  have hlz : ((l9 : Int) == 0) = false := beq_eq_false_iff_ne.2 (by omega)
  go_wp2_with (go_at_call 62; (with_reducible refine (CL.out _ _ _ N1_4.out N3_5.out Z_4.out).mono ?_); rintro e w6 ⟨vr, rfl, hvr, k6⟩; refine Hid.out ?_)
  refine Lib.hid ?_
  have T_6 := Lib.hid (T_4.out.kp k6)
  have RA_6 := Lib.hid (RA_4.out.kp k6)
  have RB_6 := Lib.hid (RB_4.out.kp k6)
  have Z_6 := Lib.hid (Z_4.out.kp k6)
  have N1_6 := Lib.hid (N1_4.out.kp k6)
  have DD_6 := Lib.hid (DD_4.out.kp k6)
  have N3_6 := Lib.hid (N3_5.out.kp k6)
  clear T_4 RA_4 RB_4 Z_4 N1_4 DD_4 N3_5
  clear k6
  obtain ⟨sgn, q1, r1, s1, q2, r2, s2, rfl⟩ := hvr.lit
  obtain ⟨⟨e0, e1, e2, f0, f1, f2⟩, HPP, HV, HKF⟩ := rat_ends T_6.out.rr T_6.out.k (Below.refl _ _) hvr (by omega)
  clear hvr
  obtain ⟨k0, k1, k2⟩ := HPP.out
  go_wp2
  exact bodyPost_ret (v := .tuple #[.agg #[.bool sgn, .slice q1 r1 s1, .slice q2 r2 s2], .int .i64 0]) (by simp [results, Tryz.results15, go_sem, k0, k1, k2]) rfl ⟨_, rfl, HV.out, HKF.out⟩
end Go.Proofs.YtmnnnoeenfmckaaGreatDoor

/-
  brepkernelref02.Norm: by walking its text.
-/
namespace Go.Proofs.YtmnnnoeenfmckaaGreatDoor
open Go.RowKit

set_option maxRecDepth 20000 in
set_option maxHeartbeats 4000000 in
theorem rqnorm_zero {w : World} {p : Bool} {a b : Value} {xs ys : List Nat} (ha : Rd w a xs) (hb : Rd w b ys) (_hl : xs.length ≤ 1000000000) (hl2 : ys.length ≤ 1000000000) (h0 : val (denL ys) = 0) :
    Calls Tryz.prog 16 #[.agg #[.bool p, a, b]] w fun e w' => e = .returned (.tuple #[.agg #[.bool false, .slice none 0 0, .slice none 0 0], .int .i64 3]) ∧ Kp w w' := by
  obtain ⟨a1, l1, c1, rfl⟩ := rd_slice ha
  obtain ⟨a2, l2, c2, rfl⟩ := rd_slice hb
  have HT := Lib.hid (One.new w (.bool p) (.slice a1 l1 c1) (.slice a2 l2 c2))
  have HA := Lib.hid ha
  have HB := Lib.hid hb
  have CT := Lib.hid (fun w' (b : Rd w' (.slice a2 l2 c2) ys) => trim_lit b (by omega))
  have hlb := rd_len hb
  have hla := rd_len ha
  clear ha hb
  have hy : ys ≠ [] := by
    rintro rfl
    exact absurd h0 (by decide)
  rw [show denL ys = ys from if_neg hy] at h0
  rw [h0, toL_zero] at CT
  have hl20 : 0 < l2 := by
    rw [hlb.1]
    exact List.length_pos_iff.2 hy
  clear _hl hl2 h0 hla hlb hy
  go_enter Tryz.func16, Tryz.ntmps16
  have KN := HT.out.k
  have RA_e := Lib.hid (HA.out.kp KN)
  have RB_e := Lib.hid (HB.out.kp KN)
  clear KN
  obtain ⟨g0, g1, g2, _⟩ := HT.out.ra.cells
  go_wp2_with (go_at_call 63; (with_reducible refine (CT.out _ RB_e.out).mono ?_); rintro e w2 ⟨o8, c8, rfl, m8, k2⟩; refine Hid.out ?_)
  refine Lib.hid ?_
  have T_2 := Lib.hid (HT.out.kp k2)
  have RA_2 := Lib.hid (RA_e.out.kp k2)
  have RB_2 := Lib.hid (RB_e.out.kp k2)
  clear HT RA_e RB_e
  clear k2
  obtain ⟨g0, g1, g2, _⟩ := T_2.out.ra.cells
  obtain ⟨d0, d1, d2, f0, f1, f2⟩ := T_2.out.rr.cells
  have HPP := Lib.hid (T_2.out.rr.put (.bool false) (.slice none 0 0) (.slice none 0 0)).cells
  unfold stored at HPP
  clear m8
  go_wp2
  obtain ⟨k0, k1, k2, _⟩ := HPP.out
  exact bodyPost_ret (v := .tuple #[.agg #[.bool false, .slice none 0 0, .slice none 0 0], .int .i64 3]) (by simp [results, Tryz.results16, go_sem, k0, k1, k2]) rfl ⟨rfl, T_2.out.k.put3 (by omega) _ _ _⟩

set_option maxRecDepth 20000 in
set_option maxHeartbeats 4000000 in
theorem rqnorm_nil {w : World} {p : Bool} {a b : Value} {xs ys : List Nat} (ha : Rd w a xs) (hb : Rd w b ys) (hl : xs.length ≤ 1000000000) (hl2 : ys.length ≤ 1000000000) (hy : ys = []) :
    Calls Tryz.prog 16 #[.agg #[.bool p, a, b]] w fun e w' => ∃ v, e = .returned (.tuple #[v, .int .i64 0]) ∧ RatV w' v (ratOf p (val xs) (val (denL ys))) ∧ Kp w w' := by
  have h0 : val (denL ys) ≠ 0 := by rw [hy]; decide
  have hLD := rd_denL hb
  obtain ⟨a1, l1, c1, rfl⟩ := rd_slice ha
  obtain ⟨a2, l2, c2, rfl⟩ := rd_slice hb
  have HT := Lib.hid (One.new w (.bool p) (.slice a1 l1 c1) (.slice a2 l2 c2))
  have HA := Lib.hid ha
  have HB := Lib.hid hb
  have CT := Lib.hid (fun w' (b : Rd w' (.slice a2 l2 c2) ys) => trim_lit b (by omega))
  have CD := Lib.hid (fun w' (a : Rd w' (.slice a1 l1 c1) xs) (b : Rd w' (.slice a2 l2 c2) ys) => rdenraw_any (p := p) a b)
  have CR := Lib.hid (fun w' va vb (a : Rd w' va xs) (b : Rd w' vb (denL ys)) => reduce_any (neg := p) a b (by omega) (by omega) h0)
  have hlb := rd_len hb
  have hla := rd_len ha
  clear ha hb
  have hl20 : l2 = 0 := by rw [hlb.1, hy]; rfl
  subst hl20
  clear hl hl2 h0 hla hlb hy hLD CT
  go_enter Tryz.func16, Tryz.ntmps16
  have KN := HT.out.k
  have RA_e := Lib.hid (HA.out.kp KN)
  have RB_e := Lib.hid (HB.out.kp KN)
  clear KN
  obtain ⟨g0, g1, g2, _⟩ := HT.out.ra.cells
  go_upto_region 3 with fail
  have T_2 := Lib.hid (HT.out.kp (Below.refl _ _).drew)
  have RA_2 := Lib.hid (RA_e.out.kp (Below.refl _ _).drew)
  have RB_2 := Lib.hid (RB_e.out.kp (Below.refl _ _).drew)
  clear HT RA_e RB_e
  go_region_held3 (fun w' => w'.cell? ⟨w.heap.size, 0, none⟩ = some (.bool p) ∧ w'.cell? ⟨w.heap.size, 1, none⟩ = some (.slice a1 l1 c1) ∧ w'.cell? ⟨w.heap.size, 2, none⟩ = some (.slice a2 0 c2))
    (first | (refine ⟨?_, ?_, ?_⟩ <;> assumption) | go_keep)
    (first
      | (go_at_call 65; (with_reducible refine (CD.out _ RA_2.out RB_2.out).mono ?_); rintro e w3 ⟨v2, rfl, n2, k3⟩; have T_3 := Lib.hid (T_2.out.kp k3); have RA_3 := Lib.hid (RA_2.out.kp k3); have RB_3 := Lib.hid (RB_2.out.kp k3); clear T_2 RA_2 RB_2; have DD_3 := Lib.hid n2; clear n2 k3; obtain ⟨g0, g1, g2, _⟩ := T_3.out.ra.cells)
      | (go_at_call 64; (with_reducible refine (CR.out _ _ _ RA_3.out DD_3.out).mono ?_); rintro e w4 ⟨vr, rfl, hvr, k4⟩; have T_4 := Lib.hid (T_3.out.kp k4); have RA_4 := Lib.hid (RA_3.out.kp k4); have RB_4 := Lib.hid (RB_3.out.kp k4); have DD_4 := Lib.hid (DD_3.out.kp k4); clear T_3 RA_3 RB_3 DD_3; obtain ⟨sgn, q1, r1, s1, q2, r2, s2, rfl⟩ := hvr.lit; obtain ⟨⟨e0, e1, e2, f0, f1, f2⟩, HPP, HV, HKF⟩ := rat_ends T_4.out.rr T_4.out.k (Below.refl _ _) hvr (by omega); clear hvr; clear k4; obtain ⟨g0, g1, g2, _⟩ := T_4.out.ra.cells))
  obtain ⟨k0, k1, k2⟩ := HPP.out
  go_wp2
  exact bodyPost_ret (v := .tuple #[.agg #[.bool sgn, .slice q1 r1 s1, .slice q2 r2 s2], .int .i64 0]) (by simp [results, Tryz.results16, go_sem, k0, k1, k2]) rfl ⟨_, rfl, HV.out, HKF.out⟩

set_option maxRecDepth 20000 in
set_option maxHeartbeats 4000000 in
theorem rqnorm_some {w : World} {p : Bool} {a b : Value} {xs ys : List Nat} (ha : Rd w a xs) (hb : Rd w b ys) (hl : xs.length ≤ 1000000000) (hl2 : ys.length ≤ 1000000000) (hy : ys ≠ []) (h0 : val (denL ys) ≠ 0) :
    Calls Tryz.prog 16 #[.agg #[.bool p, a, b]] w fun e w' => ∃ v, e = .returned (.tuple #[v, .int .i64 0]) ∧ RatV w' v (ratOf p (val xs) (val (denL ys))) ∧ Kp w w' := by
  have hLD := rd_denL hb
  obtain ⟨a1, l1, c1, rfl⟩ := rd_slice ha
  obtain ⟨a2, l2, c2, rfl⟩ := rd_slice hb
  have HT := Lib.hid (One.new w (.bool p) (.slice a1 l1 c1) (.slice a2 l2 c2))
  have HA := Lib.hid ha
  have HB := Lib.hid hb
  have CT := Lib.hid (fun w' (b : Rd w' (.slice a2 l2 c2) ys) => trim_lit b (by omega))
  have CD := Lib.hid (fun w' (a : Rd w' (.slice a1 l1 c1) xs) (b : Rd w' (.slice a2 l2 c2) ys) => rdenraw_any (p := p) a b)
  have CR := Lib.hid (fun w' va vb (a : Rd w' va xs) (b : Rd w' vb (denL ys)) => reduce_any (neg := p) a b (by omega) (by omega) h0)
  have hlb := rd_len hb
  have hla := rd_len ha
  clear ha hb
  have hl20 : 0 < l2 := by
    rw [hlb.1]
    exact List.length_pos_iff.2 hy
  have H0 := Lib.hid (show val ys ≠ 0 from by have h := h0; rw [show denL ys = ys from if_neg hy] at h; exact h)
  obtain ⟨l9, hl9⟩ : ∃ l, l = (toL (val ys)).length := ⟨_, rfl⟩
  rw [← hl9] at CT
  have hl90 : 0 < l9 := by rw [hl9]; exact len_pos H0.out
  have hlz : ((l9 : Int) == 0) = false := beq_eq_false_iff_ne.2 (by omega)
  clear hl hl2 h0 hla hlb hy hLD hl9
  go_enter Tryz.func16, Tryz.ntmps16
  have KN := HT.out.k
  have RA_e := Lib.hid (HA.out.kp KN)
  have RB_e := Lib.hid (HB.out.kp KN)
  clear KN
  obtain ⟨g0, g1, g2, _⟩ := HT.out.ra.cells
  go_wp2_with (go_at_call 63; (with_reducible refine (CT.out _ RB_e.out).mono ?_); rintro e w2 ⟨o8, c8, rfl, m8, k2⟩; refine Hid.out ?_)
  refine Lib.hid ?_
  have T_2 := Lib.hid (HT.out.kp k2)
  have RA_2 := Lib.hid (RA_e.out.kp k2)
  have RB_2 := Lib.hid (RB_e.out.kp k2)
  clear HT RA_e RB_e
  clear k2
  obtain ⟨g0, g1, g2, _⟩ := T_2.out.ra.cells
  clear m8
  go_upto_region 3 with fail
  have T_3 := Lib.hid (T_2.out.kp (Below.refl _ _).drew)
  have RA_3 := Lib.hid (RA_2.out.kp (Below.refl _ _).drew)
  have RB_3 := Lib.hid (RB_2.out.kp (Below.refl _ _).drew)
  clear T_2 RA_2 RB_2
  go_region_held3 (fun w' => w'.cell? ⟨w.heap.size, 0, none⟩ = some (.bool p) ∧ w'.cell? ⟨w.heap.size, 1, none⟩ = some (.slice a1 l1 c1) ∧ w'.cell? ⟨w.heap.size, 2, none⟩ = some (.slice a2 l2 c2))
    (first | (refine ⟨?_, ?_, ?_⟩ <;> assumption) | go_keep)
    (first
      | (go_at_call 65; (with_reducible refine (CD.out _ RA_3.out RB_3.out).mono ?_); rintro e w4 ⟨v2, rfl, n2, k4⟩; have T_4 := Lib.hid (T_3.out.kp k4); have RA_4 := Lib.hid (RA_3.out.kp k4); have RB_4 := Lib.hid (RB_3.out.kp k4); clear T_3 RA_3 RB_3; have DD_4 := Lib.hid n2; clear n2 k4; obtain ⟨g0, g1, g2, _⟩ := T_4.out.ra.cells)
      | (go_at_call 64; (with_reducible refine (CR.out _ _ _ RA_4.out DD_4.out).mono ?_); rintro e w5 ⟨vr, rfl, hvr, k5⟩; have T_5 := Lib.hid (T_4.out.kp k5); have RA_5 := Lib.hid (RA_4.out.kp k5); have RB_5 := Lib.hid (RB_4.out.kp k5); have DD_5 := Lib.hid (DD_4.out.kp k5); clear T_4 RA_4 RB_4 DD_4; obtain ⟨sgn, q1, r1, s1, q2, r2, s2, rfl⟩ := hvr.lit; obtain ⟨⟨e0, e1, e2, f0, f1, f2⟩, HPP, HV, HKF⟩ := rat_ends T_5.out.rr T_5.out.k (Below.refl _ _) hvr (by omega); clear hvr; clear k5; obtain ⟨g0, g1, g2, _⟩ := T_5.out.ra.cells))
  obtain ⟨k0, k1, k2⟩ := HPP.out
  go_wp2
  exact bodyPost_ret (v := .tuple #[.agg #[.bool sgn, .slice q1 r1 s1, .slice q2 r2 s2], .int .i64 0]) (by simp [results, Tryz.results16, go_sem, k0, k1, k2]) rfl ⟨_, rfl, HV.out, HKF.out⟩

theorem rqnorm_any {w : World} {p : Bool} {a b : Value} {xs ys : List Nat} (ha : Rd w a xs) (hb : Rd w b ys) (hl : xs.length ≤ 1000000000) (hl2 : ys.length ≤ 1000000000) (h0 : val (denL ys) ≠ 0) :
    Calls Tryz.prog 16 #[.agg #[.bool p, a, b]] w fun e w' => ∃ v, e = .returned (.tuple #[v, .int .i64 0]) ∧ RatV w' v (ratOf p (val xs) (val (denL ys))) ∧ Kp w w' := by
  by_cases hy : ys = []
  · exact rqnorm_nil ha hb hl hl2 hy
  · exact rqnorm_some ha hb hl hl2 hy h0
end Go.Proofs.YtmnnnoeenfmckaaGreatDoor

/-
  brepkernellaw02.number, light: by walking their texts.
-/
namespace Go.Proofs.YtmnnnoeenfmckaaGreatDoor
open Go.RowKit

/-- The number that any limbs stand for. -/
def numR (s : Bool) (xs ys : List Nat) : Rat := if val (denL ys) = 0 then 0 else ratOf s (val xs) (val (denL ys))

theorem rsz_num {w : World} {s : Bool} {a b : Value} {xs ys : List Nat} (ha : Rd w a xs) (hb : Rd w b ys) (hl : xs.length ≤ 16) (hl2 : ys.length ≤ 16) : RSz 16 (numR s xs ys) := by
  unfold numR
  split
  · refine ⟨?_, ?_⟩
    · rw [show (0 : Rat).num = 0 from rfl, show (0 : Int).natAbs = 0 from rfl]; exact Nat.le_trans (length_toL_le 0 1 (by decide)) (by decide)
    · rw [show (0 : Rat).den = 1 from rfl]; exact Nat.le_trans (length_toL_le 1 1 (by decide)) (by decide)
  · rename_i h
    have hL : Limbs (denL ys) := by
      unfold denL
      split
      · exact Limbs.cons (by omega) Limbs.nil
      · exact rd_limbs hb
    have hl3 : (denL ys).length ≤ 16 := by
      unfold denL
      split
      · simp
      · exact hl2
    refine RSz.of_mkRat ?_ (Sz.val hL _ hl3) h
    rw [sg_natAbs]
    exact Sz.val (rd_limbs ha) _ hl

theorem rqnorm_num {w : World} {s : Bool} {a b : Value} {xs ys : List Nat} (ha : Rd w a xs) (hb : Rd w b ys) (hl : xs.length ≤ 16) (hl2 : ys.length ≤ 16) :
    Calls Tryz.prog 16 #[.agg #[.bool s, a, b]] w fun e w' => ∃ (v : Value) (k : Int), e = .returned (.tuple #[v, .int .i64 k]) ∧ RatV w' v (numR s xs ys) ∧ Kp w w' := by
  unfold numR
  by_cases h : val (denL ys) = 0
  · rw [if_pos h]
    refine (rqnorm_zero (p := s) ha hb (by omega) (by omega) h).mono ?_
    rintro e w' ⟨he, k⟩
    exact ⟨_, _, he, RatV.zero w', k⟩
  · rw [if_neg h]
    refine (rqnorm_any (p := s) ha hb (by omega) (by omega) h).mono ?_
    rintro e w' ⟨v, he, hv, k⟩
    exact ⟨v, _, he, hv, k⟩

set_option maxRecDepth 20000 in
set_option maxHeartbeats 4000000 in
theorem made_num {w : World} {s : Bool} {a b : Value} {xs ys : List Nat} (ha : Rd w a xs) (hb : Rd w b ys) (hl : xs.length ≤ 16) (hl2 : ys.length ≤ 16) :
    Calls Tryz.prog 75 #[.bool s, a, b] w fun e w' => ∃ r, e = .returned r ∧ RatV w' r (numR s xs ys) ∧ Kp w w' := by
  have HT := Lib.hid (Nul.new w)
  have CN := Lib.hid (fun w' (kk : Kp w w') => rqnorm_num (s := s) (ha.kp kk) (hb.kp kk) hl hl2)
  obtain ⟨a1, l1, c1, rfl⟩ := rd_slice ha
  obtain ⟨a2, l2, c2, rfl⟩ := rd_slice hb
  clear ha hb hl hl2
  go_enter Tryz.func75, Tryz.ntmps75
  have KN := HT.out.k
  clear KN
  go_wp2_with (go_at_call 16; (with_reducible refine (CN.out _ HT.out.k).mono ?_); rintro e w2 ⟨vr, er, rfl, hvr, k2⟩; refine Hid.out ?_)
  refine Lib.hid ?_
  have T_2 := Lib.hid (HT.out.kp k2)
  clear HT
  clear k2
  obtain ⟨sgn, q1, r1, s1, q2, r2, s2, rfl⟩ := hvr.lit
  have VR := Lib.hid hvr
  clear hvr
  have T_3 := Lib.hid (T_2.out.kp (Kp.alloc _ (Obj.cells #[Value.bool sgn, Value.slice q1 r1 s1, Value.slice q2 r2 s2] 27)))
  have V9_3 := Lib.hid (VR.out.kp (Kp.alloc _ (Obj.cells #[Value.bool sgn, Value.slice q1 r1 s1, Value.slice q2 r2 s2] 27)))
  clear T_2 VR
  obtain ⟨⟨e0, e1, e2, f0, f1, f2⟩, HPP, HV, HKF⟩ := rat_ends T_3.out.rr T_3.out.k (Below.refl _ _) V9_3.out (by omega)
  obtain ⟨k0, k1, k2⟩ := HPP.out
  go_wp2
  exact bodyPost_ret (v := .agg #[.bool sgn, .slice q1 r1 s1, .slice q2 r2 s2]) (by simp [results, Tryz.results75, go_sem, k0, k1, k2]) rfl ⟨_, rfl, HV.out, HKF.out⟩

set_option maxRecDepth 20000 in
set_option maxHeartbeats 4000000 in
theorem number_any {w : World} {s : Bool} {a b : Value} {xs ys : List Nat} (ha : Rd w a xs) (hb : Rd w b ys) (hl : xs.length ≤ 16) (hl2 : ys.length ≤ 16) :
    Calls Tryz.prog 24 #[.agg #[.bool s, a, b]] w fun e w' => ∃ r, e = .returned r ∧ RatV w' r (numR s xs ys) ∧ Kp w w' := by
  have CN := Lib.hid (fun w' (kk : Kp w w') => made_num (s := s) (ha.kp kk) (hb.kp kk) hl hl2)
  obtain ⟨a1, l1, c1, rfl⟩ := rd_slice ha
  obtain ⟨a2, l2, c2, rfl⟩ := rd_slice hb
  have HR := Res.new (w.alloc (Obj.cells #[Value.bool s, Value.slice a1 l1 c1, Value.slice a2 l2 c2] 24)) (.bool false) (.slice none 0 0) (.slice none 0 0)
  rw [World.size_alloc] at HR
  have HRR := Lib.hid HR
  have HK := Lib.hid ((Kp.alloc w (Obj.cells #[Value.bool s, Value.slice a1 l1 c1, Value.slice a2 l2 c2] 24)).tr (Kp.alloc _ (Obj.cells #[Value.bool false, Value.slice none 0 0, Value.slice none 0 0] 27)))
  clear ha hb hl hl2 HR
  go_enter Tryz.func24, Tryz.ntmps24
  go_wp2_with (go_at_call 75; (with_reducible refine (CN.out _ HK.out).mono ?_); rintro e w1 ⟨vr, rfl, hvr, k1⟩; refine Hid.out ?_)
  refine Lib.hid ?_
  obtain ⟨sgn, q1, r1, s1, q2, r2, s2, rfl⟩ := hvr.lit
  obtain ⟨⟨e0, e1, e2, f0, f1, f2⟩, HPP, HV, HKF⟩ := rat_ends HRR.out HK.out k1 hvr (by omega)
  clear hvr k1
  go_wp2
  obtain ⟨k0, k1, k2⟩ := HPP.out
  exact bodyPost_ret (v := .agg #[.bool sgn, .slice q1 r1 s1, .slice q2 r2 s2]) (by simp [results, Tryz.results24, go_sem, k0, k1, k2]) rfl ⟨_, rfl, HV.out, HKF.out⟩

set_option maxRecDepth 20000 in
set_option maxHeartbeats 4000000 in
theorem qlight_yes {w : World} {s : Bool} {a b : Value} {xs ys : List Nat} (ha : Rd w a xs) (hb : Rd w b ys) (hl : xs.length ≤ 16 ∧ ys.length ≤ 16) :
    Calls Tryz.prog 13 #[.agg #[.bool s, a, b]] w fun e w' => e = .returned (.bool true) ∧ Kp w w' := by
  obtain ⟨a1, l1, c1, rfl⟩ := rd_slice ha
  obtain ⟨a2, l2, c2, rfl⟩ := rd_slice hb
  obtain ⟨h1, h2, h3⟩ := rd_len ha
  obtain ⟨h4, h5, h6⟩ := rd_len hb
  unfold maxLen at h3 h6
  have HK := Lib.hid (fun o : Obj => Kp.alloc w o)
  have e1 : decide ((l1 : Int) ≤ 16) = true := decide_eq_true (by omega)
  have e2 : decide ((l2 : Int) ≤ 16) = true := decide_eq_true (by omega)
  clear ha hb hl h1 h4
  go_enter Tryz.func13, Tryz.ntmps13
  go_wp2
  go_ret
  exact ⟨rfl, HK.out _⟩

set_option maxRecDepth 20000 in
set_option maxHeartbeats 4000000 in
theorem qlight_no {w : World} {s : Bool} {a b : Value} {xs ys : List Nat} (ha : Rd w a xs) (hb : Rd w b ys) (hl : ¬ (xs.length ≤ 16 ∧ ys.length ≤ 16)) :
    Calls Tryz.prog 13 #[.agg #[.bool s, a, b]] w fun e w' => e = .returned (.bool false) ∧ Kp w w' := by
  obtain ⟨a1, l1, c1, rfl⟩ := rd_slice ha
  obtain ⟨a2, l2, c2, rfl⟩ := rd_slice hb
  obtain ⟨h1, h2, h3⟩ := rd_len ha
  obtain ⟨h4, h5, h6⟩ := rd_len hb
  unfold maxLen at h3 h6
  have HK := Lib.hid (fun o : Obj => Kp.alloc w o)
  by_cases c : l1 ≤ 16
  · have e1 : decide ((l1 : Int) ≤ 16) = true := decide_eq_true (by omega)
    have e2 : decide ((l2 : Int) ≤ 16) = false := decide_eq_false (by omega)
    clear ha hb hl h1 h4
    go_enter Tryz.func13, Tryz.ntmps13
    go_wp2
    go_ret
    exact ⟨rfl, HK.out _⟩
  · have e1 : decide ((l1 : Int) ≤ 16) = false := decide_eq_false (by omega)
    clear ha hb hl h1 h4
    go_enter Tryz.func13, Tryz.ntmps13
    go_wp2
    go_ret
    exact ⟨rfl, HK.out _⟩
end Go.Proofs.YtmnnnoeenfmckaaGreatDoor
