/-
  brepkernelref02.Valid of any limbs: by walking its text.
-/
import Derived.Test.YtmnnnoeenfmckaaGreatDoorQva
import Derived.Test.YtmnnnoeenfmckaaGreatDoorBr
namespace Go.Proofs.YtmnnnoeenfmckaaGreatDoor
open Go.RowKit

theorem rnvalid_b {w : World} {v : Value} {xs : List Nat} {t : Bool} (h : Rd w v xs) (e : validB xs = t) :
    Calls Tryz.prog 69 #[v] w fun e w' => e = .returned (.bool t) ∧ w = w' := by
  have := rvalid_any v _ w h
  rw [e] at this
  exact this
theorem rnvalid_q {w : World} {v : Value} {n : Nat} (h : M w v n) :
    Calls Tryz.prog 69 #[v] w fun e w' => e = .returned (.bool true) ∧ w = w' :=
  rnvalid_b h (validB_toL n)

set_option maxRecDepth 20000 in
set_option maxHeartbeats 2000000 in
/-- Limbs of the numerator that are no natural number. -/
theorem rvalid_a {w : World} {p : Bool} {a b : Value} {xs ys : List Nat} (ha : Rd w a xs) (hb : Rd w b ys) (e : validB xs = false) :
    Calls Tryz.prog 18 #[.agg #[.bool p, a, b]] w fun e w' => e = .returned (.bool false) ∧ Kp w w' := by
  have HN := Lib.hid (fun w' (kk : Kp w w') => rnvalid_b (ha.kp kk) e)
  obtain ⟨a1, l1, c1, rfl⟩ := rd_slice ha
  obtain ⟨a2, l2, c2, rfl⟩ := rd_slice hb
  have HK := Lib.hid (fun o1 => Kp.alloc w o1)
  clear ha hb e
  go_enter Tryz.func18, Tryz.ntmps18
  go_wp2_with (go_at_call 69; (with_reducible refine (HN.out _ (HK.out _)).mono ?_); rintro e w1 ⟨rfl, rfl⟩)
  go_wp2
  go_ret
  exact ⟨rfl, HK.out _⟩


set_option maxRecDepth 20000 in
set_option maxHeartbeats 2000000 in
/-- Limbs of the denominator that are no natural number. -/
theorem rvalid_b {w : World} {p : Bool} {a b : Value} {xs ys : List Nat} (ha : Rd w a xs) (hb : Rd w b ys) (e : validB xs = true) (f : validB ys = false) :
    Calls Tryz.prog 18 #[.agg #[.bool p, a, b]] w fun e w' => e = .returned (.bool false) ∧ Kp w w' := by
  have HN := Lib.hid (fun w' (kk : Kp w w') => rnvalid_b (ha.kp kk) e)
  have HD := Lib.hid (fun w' (kk : Kp w w') => rnvalid_b (hb.kp kk) f)
  obtain ⟨a1, l1, c1, rfl⟩ := rd_slice ha
  obtain ⟨a2, l2, c2, rfl⟩ := rd_slice hb
  have HK := Lib.hid (fun o1 => Kp.alloc w o1)
  clear ha hb e f
  go_enter Tryz.func18, Tryz.ntmps18
  go_wp2_with (go_at_call 69; first | ((with_reducible refine (HN.out _ (HK.out _)).mono ?_); rintro e w1 ⟨rfl, rfl⟩) | ((with_reducible refine (HD.out _ (HK.out _)).mono ?_); rintro e w1 ⟨rfl, rfl⟩))
  go_wp2
  go_ret
  exact ⟨rfl, HK.out _⟩


set_option maxRecDepth 20000 in
set_option maxHeartbeats 2000000 in
/-- A denominator of 1. -/
theorem rvalid_c {w : World} {p : Bool} {a b : Value} {n : Nat} (ha : M w a n) (hb : M w b 1) :
    Calls Tryz.prog 18 #[.agg #[.bool p, a, b]] w fun e w' => e = .returned (.bool false) ∧ Kp w w' := by
  have HN := Lib.hid (fun w' (kk : Kp w w') => rnvalid_q (ha.kp kk))
  have HD := Lib.hid (fun w' (kk : Kp w w') => rnvalid_q (hb.kp kk))
  have HK := Lib.hid (fun o1 => Kp.alloc w o1)
  obtain ⟨a1, l1, c1, rfl⟩ := m_slice ha
  have hb2 := hb.kp (Kp.alloc w (Obj.cells #[Value.bool p, .slice a1 l1 c1, b] 27))
  obtain ⟨bb, off, c2, rfl, hc⟩ := one_slice hb2
  clear ha hb hb2
  go_enter Tryz.func18, Tryz.ntmps18
  go_wp2_with (go_at_call 69; first | ((with_reducible refine (HN.out _ (HK.out _)).mono ?_); rintro e w1 ⟨rfl, rfl⟩) | ((with_reducible refine (HD.out _ (HK.out _)).mono ?_); rintro e w1 ⟨rfl, rfl⟩))
  go_wp2
  go_ret
  exact ⟨rfl, HK.out _⟩


set_option maxRecDepth 20000 in
set_option maxHeartbeats 2000000 in
/-- A numerator of 0 with a sign. -/
theorem rvalid_n {w : World} {p : Bool} {a b : Value} {k : Nat} (ha : M w a 0) (hb : M w b k) (h1 : k ≠ 1) (hp : p = true) :
    Calls Tryz.prog 18 #[.agg #[.bool p, a, b]] w fun e w' => e = .returned (.bool false) ∧ Kp w w' := by
  subst hp
  have HN := Lib.hid (fun w' (kk : Kp w w') => rnvalid_q (ha.kp kk))
  have HD := Lib.hid (fun w' (kk : Kp w w') => rnvalid_q (hb.kp kk))
  have HK := Lib.hid (fun o1 => Kp.alloc w o1)
  obtain ⟨a1, a2, rfl, h2, h3, _, _⟩ := ha
  simp only [toL_zero, List.length_nil] at HN h2 h3 ⊢
  have hb2 := hb.kp (Kp.alloc w (Obj.cells #[Value.bool true, .slice a1 0 a2, b] 27))
  rcases not_one hb2 h1 with ⟨o2, l2, c2, rfl, hl⟩ | ⟨bb, off, c2, x, rfl, hc, hx⟩
  · have hz1 : ((l2 : Int) == 1) = false := beq_eq_false_iff_ne.2 (by omega)
    clear h1 hb hb2
    go_enter Tryz.func18, Tryz.ntmps18
    go_wp2_with (go_at_call 69; first | ((with_reducible refine (HN.out _ (HK.out _)).mono ?_); rintro e w1 ⟨rfl, rfl⟩) | ((with_reducible refine (HD.out _ (HK.out _)).mono ?_); rintro e w1 ⟨rfl, rfl⟩))
    go_wp2
    go_ret
    exact ⟨rfl, HK.out _⟩
  · have hz1 : ((x : Int) == 1) = false := beq_eq_false_iff_ne.2 (by omega)
    clear h1 hb hb2
    go_enter Tryz.func18, Tryz.ntmps18
    go_wp2_with (go_at_call 69; first | ((with_reducible refine (HN.out _ (HK.out _)).mono ?_); rintro e w1 ⟨rfl, rfl⟩) | ((with_reducible refine (HD.out _ (HK.out _)).mono ?_); rintro e w1 ⟨rfl, rfl⟩))
    go_wp2
    go_ret
    exact ⟨rfl, HK.out _⟩


set_option maxRecDepth 20000 in
set_option maxHeartbeats 2000000 in
/-- A numerator of 0 with a denominator. -/
theorem rvalid_d {w : World} {p : Bool} {a b : Value} {k : Nat} (ha : M w a 0) (hb : M w b k) (h1 : k ≠ 1) (h2k : k ≠ 0) (hp : p = false) :
    Calls Tryz.prog 18 #[.agg #[.bool p, a, b]] w fun e w' => e = .returned (.bool false) ∧ Kp w w' := by
  subst hp
  have HN := Lib.hid (fun w' (kk : Kp w w') => rnvalid_q (ha.kp kk))
  have HD := Lib.hid (fun w' (kk : Kp w w') => rnvalid_q (hb.kp kk))
  have HK := Lib.hid (fun o1 => Kp.alloc w o1)
  obtain ⟨a1, a2, rfl, h2, h3, _, _⟩ := ha
  simp only [toL_zero, List.length_nil] at HN h2 h3 ⊢
  have hb2 := hb.kp (Kp.alloc w (Obj.cells #[Value.bool false, .slice a1 0 a2, b] 27))
  rcases not_one hb2 h1 with ⟨o2, l2, c2, rfl, hl⟩ | ⟨bb, off, c2, x, rfl, hc, hx⟩
  · have hz1 : ((l2 : Int) == 1) = false := beq_eq_false_iff_ne.2 (by omega)
    have hlp : l2 ≠ 0 := fun e => h2k ((m_len_zero hb).1 e)
    have hg : decide ((0 : Int) < (l2 : Int)) = true := decide_eq_true (by omega)
    have hg2 : ((0 : Int) < (l2 : Int)) = True := eq_true (by omega)
    have hg3 : (0 < l2) = True := eq_true (by omega)
    have hg4 : decide (0 < l2) = true := decide_eq_true (by omega)
    clear hlp h2k
    clear h1 hb hb2
    go_enter Tryz.func18, Tryz.ntmps18
    go_wp2_with (go_at_call 69; first | ((with_reducible refine (HN.out _ (HK.out _)).mono ?_); rintro e w1 ⟨rfl, rfl⟩) | ((with_reducible refine (HD.out _ (HK.out _)).mono ?_); rintro e w1 ⟨rfl, rfl⟩))
    go_wp2
    go_ret
    exact ⟨rfl, HK.out _⟩
  · have hz1 : ((x : Int) == 1) = false := beq_eq_false_iff_ne.2 (by omega)
    clear h2k
    clear h1 hb hb2
    go_enter Tryz.func18, Tryz.ntmps18
    go_wp2_with (go_at_call 69; first | ((with_reducible refine (HN.out _ (HK.out _)).mono ?_); rintro e w1 ⟨rfl, rfl⟩) | ((with_reducible refine (HD.out _ (HK.out _)).mono ?_); rintro e w1 ⟨rfl, rfl⟩))
    go_wp2
    go_ret
    exact ⟨rfl, HK.out _⟩


set_option maxRecDepth 20000 in
set_option maxHeartbeats 2000000 in
/-- A numerator other than 0: the two have no common divisor. -/
theorem rvalid_g {w : World} {p : Bool} {a b : Value} {n k : Nat} (ha : M w a n) (hb : M w b k) (h0 : n ≠ 0) (h1 : k ≠ 1) {j : Nat} (hs : (toL n).length ≤ j) (hs2 : (toL (if k = 0 then 1 else k)).length ≤ j) (hk : j ≤ 1073741824) :
    Calls Tryz.prog 18 #[.agg #[.bool p, a, b]] w fun e w' => e = .returned (.bool (Nat.gcd n (if k = 0 then 1 else k) == 1)) ∧ Kp w w' := by
  have HN := Lib.hid (fun w' (kk : Kp w w') => rnvalid_q (ha.kp kk))
  have HD := Lib.hid (fun w' (kk : Kp w w') => rnvalid_q (hb.kp kk))
  have HK := Lib.hid (fun o1 => Kp.alloc w o1)
  have HM := Lib.hid (fun w' (kk : Kp w w') => rden_any (s := p) (ha.kp kk) (hb.kp kk))
  obtain ⟨d, hd⟩ : ∃ d, d = (if k = 0 then 1 else k) := ⟨_, rfl⟩
  rw [← hd] at HM hs2 ⊢
  have HC := Lib.hid (fun w' vd (kk : Kp w w') (m : M w' vd d) => rgcd_any (ha.kp kk) m (Nat.le_trans hs hk) (Nat.le_trans hs2 hk))
  obtain ⟨g, hg⟩ : ∃ g, g = Nat.gcd n d := ⟨_, rfl⟩
  rw [← hg] at HC ⊢
  have hl := len_pos h0
  obtain ⟨a1, l1, c1, rfl⟩ := m_slice ha
  have hz : ((l1 : Int) == 0) = false := beq_eq_false_iff_ne.2 (by have := m_len ha; omega)
  clear h0 hd hs hs2 hg hl
  by_cases hg1 : g = 1
  · subst hg1
    rw [show ((1 : Nat) == 1) = true from rfl]
    have hb2 := hb.kp (Kp.alloc w (Obj.cells #[Value.bool p, .slice a1 l1 c1, b] 27))
    rcases not_one hb2 h1 with ⟨o2, l2, c2, rfl, hl⟩ | ⟨bb, off, c2, x, rfl, hc, hx⟩
    · have hz1 : ((l2 : Int) == 1) = false := beq_eq_false_iff_ne.2 (by omega)
      have HPAR := Lib.hid (Res.new w (.bool p) (.slice a1 l1 c1) (.slice o2 l2 c2))
      clear h1 hb hb2 ha
      go_enter Tryz.func18, Tryz.ntmps18
      go_wp2_with (go_at_call 69; first | ((with_reducible refine (HN.out _ (HK.out _)).mono ?_); rintro e w1 ⟨rfl, rfl⟩) | ((with_reducible refine (HD.out _ (HK.out _)).mono ?_); rintro e w1 ⟨rfl, rfl⟩))
      go_wp2
      go_region_with (first
        | (go_at_call 65; (refine (HM.out _ (by repeat first | exact Below.refl _ _ | apply Kp.on | apply Kp.up)).mono ?_); rintro e w1 ⟨vd, rfl, hvd, K1⟩; have HVD := Lib.hid hvd; have HK1 := Lib.hid K1; obtain ⟨p0, p1, p2, _⟩ := ((HPAR.out.kp (Kp.on (Below.refl _ _))).kp K1).cells)
        | (go_at_call 70; (refine (HC.out _ _ ((HK.out _).on.tr HK1.out) HVD.out).mono ?_); rintro e w2 ⟨vg, rfl, hvg, K2⟩; have HK2 := Lib.hid K2; obtain ⟨gb, go, gc, rfl, hgc⟩ := one_slice hvg; clear hvg K2))
      all_goals go_wp2
      all_goals go_ret
      all_goals exact ⟨rfl, ((HK.out _).on.tr HK1.out).tr HK2.out⟩
    · have hz1 : ((x : Int) == 1) = false := beq_eq_false_iff_ne.2 (by omega)
      have HPAR := Lib.hid (Res.new w (.bool p) (.slice a1 l1 c1) (.slice (some ⟨bb, off, none⟩) 1 c2))
      clear h1 hb hb2 ha
      go_enter Tryz.func18, Tryz.ntmps18
      go_wp2_with (go_at_call 69; first | ((with_reducible refine (HN.out _ (HK.out _)).mono ?_); rintro e w1 ⟨rfl, rfl⟩) | ((with_reducible refine (HD.out _ (HK.out _)).mono ?_); rintro e w1 ⟨rfl, rfl⟩))
      go_wp2
      go_region_with (first
        | (go_at_call 65; (refine (HM.out _ (by repeat first | exact Below.refl _ _ | apply Kp.on | apply Kp.up)).mono ?_); rintro e w1 ⟨vd, rfl, hvd, K1⟩; have HVD := Lib.hid hvd; have HK1 := Lib.hid K1; obtain ⟨p0, p1, p2, _⟩ := ((HPAR.out.kp (Kp.on (Below.refl _ _))).kp K1).cells)
        | (go_at_call 70; (refine (HC.out _ _ ((HK.out _).on.tr HK1.out) HVD.out).mono ?_); rintro e w2 ⟨vg, rfl, hvg, K2⟩; have HK2 := Lib.hid K2; obtain ⟨gb, go, gc, rfl, hgc⟩ := one_slice hvg; clear hvg K2))
      all_goals go_wp2
      all_goals go_ret
      all_goals exact ⟨rfl, ((HK.out _).on.tr HK1.out).tr HK2.out⟩
  · rw [show (g == 1) = false from beq_eq_false_iff_ne.2 hg1]
    have hb2 := hb.kp (Kp.alloc w (Obj.cells #[Value.bool p, .slice a1 l1 c1, b] 27))
    rcases not_one hb2 h1 with ⟨o2, l2, c2, rfl, hl⟩ | ⟨bb, off, c2, x, rfl, hc, hx⟩
    · have hz1 : ((l2 : Int) == 1) = false := beq_eq_false_iff_ne.2 (by omega)
      have HPAR := Lib.hid (Res.new w (.bool p) (.slice a1 l1 c1) (.slice o2 l2 c2))
      clear h1 hb hb2 ha
      go_enter Tryz.func18, Tryz.ntmps18
      go_wp2_with (go_at_call 69; first | ((with_reducible refine (HN.out _ (HK.out _)).mono ?_); rintro e w1 ⟨rfl, rfl⟩) | ((with_reducible refine (HD.out _ (HK.out _)).mono ?_); rintro e w1 ⟨rfl, rfl⟩))
      go_wp2
      go_region_with (first
        | (go_at_call 65; (refine (HM.out _ (by repeat first | exact Below.refl _ _ | apply Kp.on | apply Kp.up)).mono ?_); rintro e w1 ⟨vd, rfl, hvd, K1⟩; have HVD := Lib.hid hvd; have HK1 := Lib.hid K1; obtain ⟨p0, p1, p2, _⟩ := ((HPAR.out.kp (Kp.on (Below.refl _ _))).kp K1).cells)
        | (go_at_call 70; (refine (HC.out _ _ ((HK.out _).on.tr HK1.out) HVD.out).mono ?_); rintro e w2 ⟨vg, rfl, hvg, K2⟩; have HK2 := Lib.hid K2; have HVG := Lib.hid hvg; obtain ⟨go, gl, gc, rfl⟩ := m_slice hvg; clear hvg K2))
      all_goals
        (rcases not_one HVG.out hg1 with ⟨o9, l9, c9, e9, hgl⟩ | ⟨gb, go9, gc9, gx, e9, hgc, hgx⟩
         · obtain ⟨rfl, rfl, rfl⟩ := (by simpa using e9 : go = o9 ∧ gl = l9 ∧ gc = c9)
           have hq : ((gl : Int) == 1) = false := beq_eq_false_iff_ne.2 (by omega)
           clear hgl e9 HVG
           go_wp2
           go_ret
           exact ⟨rfl, ((HK.out _).on.tr HK1.out).tr HK2.out⟩
         · obtain ⟨rfl, rfl, rfl⟩ := (by simpa using e9 : go = some ⟨gb, go9, none⟩ ∧ gl = 1 ∧ gc = gc9)
           have hq : ((gx : Int) == 1) = false := beq_eq_false_iff_ne.2 (by omega)
           clear hgx e9 HVG
           go_wp2
           go_ret
           exact ⟨rfl, ((HK.out _).on.tr HK1.out).tr HK2.out⟩)
    · have hz1 : ((x : Int) == 1) = false := beq_eq_false_iff_ne.2 (by omega)
      have HPAR := Lib.hid (Res.new w (.bool p) (.slice a1 l1 c1) (.slice (some ⟨bb, off, none⟩) 1 c2))
      clear h1 hb hb2 ha
      go_enter Tryz.func18, Tryz.ntmps18
      go_wp2_with (go_at_call 69; first | ((with_reducible refine (HN.out _ (HK.out _)).mono ?_); rintro e w1 ⟨rfl, rfl⟩) | ((with_reducible refine (HD.out _ (HK.out _)).mono ?_); rintro e w1 ⟨rfl, rfl⟩))
      go_wp2
      go_region_with (first
        | (go_at_call 65; (refine (HM.out _ (by repeat first | exact Below.refl _ _ | apply Kp.on | apply Kp.up)).mono ?_); rintro e w1 ⟨vd, rfl, hvd, K1⟩; have HVD := Lib.hid hvd; have HK1 := Lib.hid K1; obtain ⟨p0, p1, p2, _⟩ := ((HPAR.out.kp (Kp.on (Below.refl _ _))).kp K1).cells)
        | (go_at_call 70; (refine (HC.out _ _ ((HK.out _).on.tr HK1.out) HVD.out).mono ?_); rintro e w2 ⟨vg, rfl, hvg, K2⟩; have HK2 := Lib.hid K2; have HVG := Lib.hid hvg; obtain ⟨go, gl, gc, rfl⟩ := m_slice hvg; clear hvg K2))
      all_goals
        (rcases not_one HVG.out hg1 with ⟨o9, l9, c9, e9, hgl⟩ | ⟨gb, go9, gc9, gx, e9, hgc, hgx⟩
         · obtain ⟨rfl, rfl, rfl⟩ := (by simpa using e9 : go = o9 ∧ gl = l9 ∧ gc = c9)
           have hq : ((gl : Int) == 1) = false := beq_eq_false_iff_ne.2 (by omega)
           clear hgl e9 HVG
           go_wp2
           go_ret
           exact ⟨rfl, ((HK.out _).on.tr HK1.out).tr HK2.out⟩
         · obtain ⟨rfl, rfl, rfl⟩ := (by simpa using e9 : go = some ⟨gb, go9, none⟩ ∧ gl = 1 ∧ gc = gc9)
           have hq : ((gx : Int) == 1) = false := beq_eq_false_iff_ne.2 (by omega)
           clear hgx e9 HVG
           go_wp2
           go_ret
           exact ⟨rfl, ((HK.out _).on.tr HK1.out).tr HK2.out⟩)


set_option maxRecDepth 20000 in
set_option maxHeartbeats 2000000 in
/-- 0. -/
theorem rvalid_z {w : World} {p : Bool} {a b : Value} (ha : M w a 0) (hb : M w b 0) (hp : p = false) :
    Calls Tryz.prog 18 #[.agg #[.bool p, a, b]] w fun e w' => e = .returned (.bool true) ∧ Kp w w' := by
  subst hp
  have HN := Lib.hid (fun w' (kk : Kp w w') => rnvalid_q (ha.kp kk))
  have HD := Lib.hid (fun w' (kk : Kp w w') => rnvalid_q (hb.kp kk))
  have HK := Lib.hid (fun o1 => Kp.alloc w o1)
  have HM := Lib.hid (fun w' (kk : Kp w w') => rden_any (s := false) (ha.kp kk) (hb.kp kk))
  rw [if_pos rfl] at HM
  have HC := Lib.hid (fun w' vd (kk : Kp w w') (m : M w' vd 1) => rgcd_any (ha.kp kk) m (by rw [toL_zero]; decide) (by rw [toL_one]; decide))
  rw [Nat.gcd_one_right] at HC
  obtain ⟨a1, c1, rfl, h2, h3, _, _⟩ := ha
  obtain ⟨o2, c2, rfl, h4, h5, _, _⟩ := hb
  simp only [toL_zero, List.length_nil] at HN HD HM HC h2 h3 h4 h5 ⊢
  have HPAR := Lib.hid (Res.new w (.bool false) (.slice a1 0 c1) (.slice o2 0 c2))
  go_enter Tryz.func18, Tryz.ntmps18
  go_wp2_with (go_at_call 69; first | ((with_reducible refine (HN.out _ (HK.out _)).mono ?_); rintro e w1 ⟨rfl, rfl⟩) | ((with_reducible refine (HD.out _ (HK.out _)).mono ?_); rintro e w1 ⟨rfl, rfl⟩))
  go_wp2
  go_region_with (first
    | (go_at_call 65; (refine (HM.out _ (by repeat first | exact Below.refl _ _ | apply Kp.on | apply Kp.up)).mono ?_); rintro e w1 ⟨vd, rfl, hvd, K1⟩; have HVD := Lib.hid hvd; have HK1 := Lib.hid K1; obtain ⟨p0, p1, p2, _⟩ := ((HPAR.out.kp (Kp.on (Below.refl _ _))).kp K1).cells)
    | (go_at_call 70; (refine (HC.out _ _ ((HK.out _).on.tr HK1.out) HVD.out).mono ?_); rintro e w2 ⟨vg, rfl, hvg, K2⟩; have HK2 := Lib.hid K2; obtain ⟨gb, go, gc, rfl, hgc⟩ := one_slice hvg; clear hvg K2))
  all_goals go_wp2
  all_goals go_ret
  all_goals exact ⟨rfl, ((HK.out _).on.tr HK1.out).tr HK2.out⟩


end Go.Proofs.YtmnnnoeenfmckaaGreatDoor
