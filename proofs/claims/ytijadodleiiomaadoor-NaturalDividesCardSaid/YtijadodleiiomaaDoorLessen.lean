/-
  natural.lessen: by walking its text.
-/
import Derived.Test.YtijadodleiiomaaDoorReplace
import Derived.Test.YtijadodleiiomaaDoorRefAM
import Derived.DeepKeys
namespace Go.Proofs.YtijadodleiiomaaDoor
open Go.RowKit

theorem lits_one {M : Int} (h : -9223372036854775808 ≤ M ∧ M ≤ 9223372036854775807) : Tryd.prog.keyLits 1 2 [.int .i64 M] = some [.int .i64 M] := by
  have hw : (Lit.int .i64 M).wf = true := by
    unfold Lit.wf
    rw [Bool.and_eq_true]
    exact ⟨decide_eq_true h.1, decide_eq_true h.2⟩
  unfold Program.keyLits
  simp only [Tryd.underlying2, hw, and_self, if_true]

theorem lits_two {M N : Int} (h : -9223372036854775808 ≤ M ∧ M ≤ 9223372036854775807) (k : -9223372036854775808 ≤ N ∧ N ≤ 9223372036854775807) :
    Tryd.prog.keyLits 2 83 [.int .i64 M, .int .i64 N] = some [.int .i64 M, .int .i64 N] := by
  have e1 : Tryd.prog.cellsOf 83 = 2 := by kernel_rfl
  have e2 : Tryd.prog.cellsOf 2 = 1 := by kernel_rfl
  unfold Program.keyLits
  simp only [Tryd.underlying83, e1, e2, List.length_cons, List.length_nil, if_true]
  simp [List.range_succ, lits_one h, lits_one k]

theorem lits_four {M0 M1 M2 M3 : Int} (h0 : -9223372036854775808 ≤ M0 ∧ M0 ≤ 9223372036854775807) (h1 : -9223372036854775808 ≤ M1 ∧ M1 ≤ 9223372036854775807) (h2 : -9223372036854775808 ≤ M2 ∧ M2 ≤ 9223372036854775807) (h3 : -9223372036854775808 ≤ M3 ∧ M3 ≤ 9223372036854775807) :
    Tryd.prog.keyLits 3 85 [.int .i64 M0, .int .i64 M1, .int .i64 M2, .int .i64 M3] = some [.int .i64 M0, .int .i64 M1, .int .i64 M2, .int .i64 M3] := by
  have e1 : Tryd.prog.cellsOf 83 = 2 := by kernel_rfl
  have e2 : Tryd.prog.cellsOf 85 = 4 := by kernel_rfl
  unfold Program.keyLits
  simp only [Tryd.underlying85, e1, e2, List.length_cons, List.length_nil, if_true]
  simp [List.range_succ, lits_two h0 h1, lits_two h2 h3]

theorem eq_mat {M0 M1 M2 M3 : Int} (h0 : -2147483648 < M0 ∧ M0 < 2147483648) (h1 : -2147483648 < M1 ∧ M1 < 2147483648) (h2 : -2147483648 < M2 ∧ M2 < 2147483648) (h3 : -2147483648 < M3 ∧ M3 < 2147483648) (w : World) :
    Sem.run Tryd.prog (Op.equalIn 10000 85 (.agg #[.int .i64 M0, .int .i64 M1, .int .i64 M2, .int .i64 M3]) (.agg #[.int .i64 1, .int .i64 0, .int .i64 0, .int .i64 1])) w = .ok (decide (M0 = 1 ∧ M1 = 0 ∧ M2 = 0 ∧ M3 = 1)) w := by
  obtain ⟨r, g1, g2⟩ := run_equalIn_deep (P := Tryd.prog) 9997 3 85 (by kernel_rfl) w 3 3 (.agg #[.int .i64 M0, .int .i64 M1, .int .i64 M2, .int .i64 M3]) (.agg #[.int .i64 1, .int .i64 0, .int .i64 0, .int .i64 1])
    [.int .i64 M0, .int .i64 M1, .int .i64 M2, .int .i64 M3] [.int .i64 1, .int .i64 0, .int .i64 0, .int .i64 1] (by kernel_rfl) (by kernel_rfl) (lits_four (by omega) (by omega) (by omega) (by omega)) (lits_four (by omega) (by omega) (by omega) (by omega))
  have : r = decide (M0 = 1 ∧ M1 = 0 ∧ M2 = 0 ∧ M3 = 1) := by
    cases r
    · symm
      apply decide_eq_false
      rintro ⟨rfl, rfl, rfl, rfl⟩
      exact absurd (g2.2 rfl) (by simp)
    · symm
      apply decide_eq_true
      simpa using g2.1 rfl
  rw [← this]
  exact g1

/-- What a step of the greatest common divisor leaves: two rows, the greater number first. -/
def Lesser (w0 w' : World) (A B : Nat) (va vb : Value) : Prop :=
  ∃ (ga gb A' B' : Nat), RowG w' ga va A' ∧ RowG w' gb vb B' ∧ ga ≠ gb ∧ w0.heap.size ≤ ga ∧ w0.heap.size ≤ gb ∧ B' ≤ A' ∧ A' ≤ A ∧ 0 < A' ∧ A' + B' < A + B ∧ Nat.gcd A' B' = Nat.gcd A B

theorem lesser_div {w0 w4 w5 : World} {gb A B : Nat} {b rv : Value} (hb : RowG w5 gb b B) (hr : Row w5 w4.heap.size rv (A % B)) (h2 : w0.heap.size ≤ gb) (hg : gb < w4.heap.size) (hk : w0.heap.size ≤ w4.heap.size) (hBA : B ≤ A) (hB : 0 < B) :
    Lesser w0 w5 A B b rv := by
  obtain ⟨g, g1, _, g3⟩ := hr.g
  have hm := Nat.mod_lt A hB
  exact ⟨gb, g, B, A % B, hb, g3, by omega, h2, by omega, by omega, hBA, hB, by omega, by rw [Nat.gcd_comm B, ← Nat.gcd_rec, Nat.gcd_comm]⟩

/-- The leading digits of two numbers. -/
theorem leading {A B f : Nat} (hA : 2 < (toL A).length) (hBA : B ≤ A) (hf : f = bitsN A - 62) : 3 ≤ f ∧ A / 2 ^ f < 4611686018427387904 ∧ B / 2 ^ f ≤ A / 2 ^ f := by
  have h1 := pow_le_of_len (m := A) (k := 2) hA
  have hA0 : A ≠ 0 := by omega
  have h2 := bitsN_spec hA0
  have h3 : 65 ≤ bitsN A := by
    rcases Nat.lt_or_ge (bitsN A) 65 with h | h
    · have h4 := Nat.pow_le_pow_right (show 0 < 2 by omega) (show bitsN A ≤ 64 by omega)
      omega
    · exact h
  refine ⟨by omega, ?_, Nat.div_le_div_right hBA⟩
  refine Nat.div_lt_of_lt_mul ?_
  have h4 : 2 ^ f * 4611686018427387904 = 2 ^ bitsN A := by
    rw [show (4611686018427387904 : Nat) = 2 ^ 62 from rfl, ← Nat.pow_add]
    congr 1
    omega
  rw [h4]
  exact h2.2.1

/-- The factors of the rows are short, and of opposite signs. -/
theorem Steps.factors {x0 y0 : Nat} {σ : Int} {p q r s x y : Nat} (h : Steps x0 y0 σ p q r s x y) (hx : x0 < 4611686018427387904) :
    (-2147483648 < σ * p ∧ σ * p < 2147483648) ∧ (-2147483648 < -σ * q ∧ -σ * q < 2147483648) ∧ (-2147483648 < -σ * r ∧ -σ * r < 2147483648) ∧ (-2147483648 < σ * s ∧ σ * s < 2147483648) ∧
    ((0 ≤ σ * p ∧ -σ * q ≤ 0) ∨ (σ * p ≤ 0 ∧ 0 ≤ -σ * q)) ∧ ((0 ≤ -σ * r ∧ σ * s ≤ 0) ∨ (-σ * r ≤ 0 ∧ 0 ≤ σ * s)) := by
  have h1 := h.short hx
  have h2 := h.rs
  have h3 := h.qs
  have h4 : p ≤ s := by
    rcases h.st with ⟨e1, _, _, e4, _⟩ | ⟨_, _, e3, _⟩ <;> omega
  rcases h.sign with e | e <;> rw [e] <;> omega

set_option maxRecDepth 20000 in
set_option maxHeartbeats 1000000 in
theorem lessen_any (w0 w : World) (ga gb : Nat) (a b : Value) (A B : Nat) (ha : RowG w ga a A) (hb : RowG w gb b B) (hk : Kp w0 w) (h1 : w0.heap.size ≤ ga) (h2 : w0.heap.size ≤ gb) (hne : ga ≠ gb)
    (hA : 2 < (toL A).length) (hl : (toL A).length ≤ 17179869184) (hBA : B ≤ A) (hB : 0 < B) (hT : Tz w) :
    Calls Tryd.prog 77 #[a, b] w fun e w' => ∃ va vb, e = .returned (.tuple #[va, vb]) ∧ Lesser w0 w' A B va vb ∧ Kp w0 w' := by
  obtain ⟨f, hf⟩ : ∃ f, f = bitsN A - 62 := ⟨_, rfl⟩
  obtain ⟨hf3, hxb, hyx⟩ := leading hA hBA hf
  have hbt := bitsN_toL A (by omega)
  have hbl := bitLen_le32 ((limbs_toL A).getD ((toL A).length - 1))
  have hbb : bitsN A ≤ 549755813888 := by omega
  have hfi : ((bitsN A : Nat) : Int) - 62 = (f : Int) := by omega
  have HBITS := Lib.hid (nbits_any a A w ha.m (by omega))
  obtain ⟨bn, hbn⟩ : ∃ bn, bn = bitsN A := ⟨_, rfl⟩
  rw [← hbn] at HBITS hfi hbb
  obtain ⟨x0, hx0⟩ : ∃ x, x = A / 2 ^ f := ⟨_, rfl⟩
  obtain ⟨y0, hy0⟩ : ∃ y, y = B / 2 ^ f := ⟨_, rfl⟩
  have hfs : f = 32 * (f / 32) + f % 32 := by omega
  have HWA := Lib.hid (fun w' (kk : Kp w w') => window_any a (toL A) (f / 32) (f % 32) w' ((ha.kp kk).m) (by omega) (by omega) (by omega) (by rw [← hfs, val_toL]; exact hxb))
  have HWB := Lib.hid (fun w' (kk : Kp w w') => window_any b (toL B) (f / 32) (f % 32) w' ((hb.kp kk).m) (by omega) (by omega) (by have := length_mono B A hBA; omega) (by rw [← hfs, val_toL]; omega))
  rw [← hfs, val_toL, ← hx0] at HWA
  rw [← hfs, val_toL, ← hy0] at HWB
  rw [← hx0] at hxb
  rw [← hx0, ← hy0] at hyx
  have HLD := Lib.hid (fun w' => lead_any x0 y0 w' hxb hyx)
  have HUN := Lib.hid unchanged_any
  have HX0 := Lib.hid hx0
  have HY0 := Lib.hid hy0
  have HRA := Lib.hid ha
  have HRB := Lib.hid hb
  have HT := Lib.hid hT
  clear hf hbt hbl hbn hx0 hy0 hfs ha hb hT
  go_enter Tryd.func77, Tryd.ntmps77
  go_wp2_with (go_at_call 18; refine HBITS.out.mono ?_; rintro e w1 ⟨rfl, rfl⟩)
  go_wp2_with (go_at_call 81; (with_reducible refine (HWA.out w (Below.refl _ _)).mono ?_); rintro e w1 ⟨rfl, K1⟩; refine Hid.out ?_)
  refine Lib.hid ?_
  go_wp2_with (go_at_call 81; (with_reducible refine (HWB.out w1 K1).mono ?_); rintro e w2 ⟨rfl, K2⟩; refine Hid.out ?_)
  refine Lib.hid ?_
  go_wp2_with (go_at_call 80; (with_reducible refine (HLD.out w2).mono ?_); rintro e w3 ⟨σ, p, q, r, s, x, y, rfl, hS, K3⟩; refine Hid.out ?_)
  refine Lib.hid ?_
  have hfac := hS.factors hxb
  obtain ⟨M0, hM0⟩ : ∃ M : Int, M = σ * p := ⟨_, rfl⟩
  obtain ⟨M1, hM1⟩ : ∃ M : Int, M = -σ * q := ⟨_, rfl⟩
  obtain ⟨M2, hM2⟩ : ∃ M : Int, M = -σ * r := ⟨_, rfl⟩
  obtain ⟨M3, hM3⟩ : ∃ M : Int, M = σ * s := ⟨_, rfl⟩
  have hmat : mat σ p q r s = #[.int .i64 M0, .int .i64 M1, .int .i64 M2, .int .i64 M3] := by unfold mat; rw [← hM0, ← hM1, ← hM2, ← hM3]
  rw [hmat]
  rw [← hM0, ← hM1, ← hM2, ← hM3] at hfac
  have HFAC := Lib.hid hfac
  have HS := Lib.hid hS
  have HM0 := Lib.hid hM0
  have HM1 := Lib.hid hM1
  have HM2 := Lib.hid hM2
  have HM3 := Lib.hid hM3
  clear hfac hS hM0 hM1 hM2 hM3 hmat
  go_wp2_with fail
  obtain ⟨W, hW⟩ : ∃ W, W = w3.alloc (Obj.cells #[Value.int IntKind.i64 M0, Value.int IntKind.i64 M1, Value.int IntKind.i64 M2, Value.int IntKind.i64 M3] 85) := ⟨_, rfl⟩
  obtain ⟨g, hg⟩ : ∃ g, g = w3.heap.size := ⟨_, rfl⟩
  have hH : W.heap[g]? = some (.cells #[.int .i64 M0, .int .i64 M1, .int .i64 M2, .int .i64 M3] 85 (0, 0)) := by rw [hW, hg]; exact heap_alloc_new w3 _
  have KW : Kp w W := by rw [hW]; exact ((K1.tr K2).tr K3).tr (Kp.alloc _ _)
  have hcell : ∀ w', Kp W w' → w'.cell? ⟨g, 0, none⟩ = some (.int .i64 M0) ∧ w'.cell? ⟨g, 1, none⟩ = some (.int .i64 M1) ∧ w'.cell? ⟨g, 2, none⟩ = some (.int .i64 M2) ∧ w'.cell? ⟨g, 3, none⟩ = some (.int .i64 M3) := by
    intro w' k
    have h := (k.block g (Array.getElem?_eq_some_iff.1 hH).1).trans hH
    exact ⟨cell_of_row w' g 0 _ _ _ h, cell_of_row w' g 1 _ _ _ h, cell_of_row w' g 2 _ _ _ h, cell_of_row w' g 3 _ _ _ h⟩
  rw [← hW, ← hg]
  obtain ⟨c0, c1, c2, c3⟩ := hcell W (Below.refl _ _)
  have HCL := Lib.hid hcell
  clear hW hg hH hcell
  have heq0 := eq_mat HFAC.out.1 HFAC.out.2.1 HFAC.out.2.2.1 HFAC.out.2.2.2.1
  have HKW := Lib.hid KW
  have HK := Lib.hid hk
  clear KW hk K1 K2 K3
  rcases Nat.eq_zero_or_pos q with hq | hq
  · have hone : M0 = 1 ∧ M1 = 0 ∧ M2 = 0 ∧ M3 = 1 := by
      rcases HS.out.st with ⟨e1, e2, e3, e4, e5⟩ | ⟨e1, _⟩
      · rw [HM0.out, HM1.out, HM2.out, HM3.out, e1, e2, e3, e4, e5]; simp
      · omega
    have heq : ∀ w', Sem.run Tryd.prog (Op.equalIn 10000 85 (.agg #[.int .i64 M0, .int .i64 M1, .int .i64 M2, .int .i64 M3]) (.agg #[.int .i64 1, .int .i64 0, .int .i64 0, .int .i64 1])) w' = .ok true w' := by
      intro w'
      rw [heq0 w', decide_eq_true hone]
    clear heq0 hone
    go_region_with (go_at_call 82; refine (HUN.out _).mono ?_; rintro e w4 ⟨rfl, K4⟩; have cc := HCL.out w4 ((show Kp W W.drew from (Below.refl _ _).drew).tr K4); obtain ⟨d0, d1, d2, d3⟩ := cc)
    all_goals
      have K5 : Kp w w4 := HKW.out.tr ((show Kp W W.drew from (Below.refl _ _).drew).tr K4)
      have HD := Lib.hid (div_any (HRA.out.m.kp K5) (HRB.out.m.kp K5) (k := 17179869184) hl (by omega) (by omega) (HT.out.kp K5))
      have HK5 := Lib.hid K5
      clear K4 K5
      go_wp2_with (go_at_call 29; refine HD.out.mono ?_; rintro e w5 ⟨qv, rv, rfl, hqv, hrv, K6⟩; refine Hid.out ?_)
      refine Lib.hid ?_
      go_wp2
      go_ret2
      exact ⟨b, rv, rfl, lesser_div (HRB.out.kp (HK5.out.tr K6)) hrv h2 (Nat.lt_of_lt_of_le HRB.out.lt HK5.out.size) (Nat.le_trans HK.out.size HK5.out.size) hBA hB, HK.out.tr (HK5.out.tr K6)⟩
  · have hone : ¬ (M0 = 1 ∧ M1 = 0 ∧ M2 = 0 ∧ M3 = 1) := by
      rintro ⟨_, e, _⟩
      have h := HM1.out
      rw [e] at h
      rcases HS.out.sign with e1 | e1 <;> rw [e1] at h <;> omega
    have heq : ∀ w', Sem.run Tryd.prog (Op.equalIn 10000 85 (.agg #[.int .i64 M0, .int .i64 M1, .int .i64 M2, .int .i64 M3]) (.agg #[.int .i64 1, .int .i64 0, .int .i64 0, .int .i64 1])) w' = .ok false w' := by
      intro w'
      rw [heq0 w', decide_eq_false hone]
    have hmade := HS.out.made hq (A := A) (B := B) (K := 2 ^ f) (α := A % 2 ^ f) (β := B % 2 ^ f) (by rw [HX0.out, Nat.div_add_mod']) (by rw [HY0.out, Nat.div_add_mod']) (Nat.mod_lt _ (Nat.pow_pos (by omega))) (Nat.mod_lt _ (Nat.pow_pos (by omega)))
    obtain ⟨A', B', eA, eB, _, _, p1, p2, p3, p4, p5⟩ := hmade
    rw [← HM0.out, ← HM1.out] at eA
    rw [← HM2.out, ← HM3.out] at eB
    have HREP := Lib.hid (fun w' (k : Kp w w') => replace_any w0 w' ga gb a b A B A' B' M0 M1 M2 M3 (HRA.out.kp k) (HRB.out.kp k) (HK.out.tr k) h1 h2 hne (by omega) hBA HFAC.out.1 HFAC.out.2.1 HFAC.out.2.2.1 HFAC.out.2.2.2.1 HFAC.out.2.2.2.2.1 HFAC.out.2.2.2.2.2 eA eB p3 (by omega))
    have HP := Lib.hid (show B' ≤ A' ∧ A' ≤ A ∧ 0 < A' ∧ A' + B' < A + B ∧ Nat.gcd A' B' = Nat.gcd A B from ⟨p2, by omega, by omega, p4, p5⟩)
    clear heq0 hone eA eB p1 p2 p3 p4 p5
    go_region_with (go_at_call 82; refine (HUN.out _).mono ?_; rintro e w4 ⟨rfl, K4⟩; have cc := HCL.out w4 ((show Kp W W.drew from (Below.refl _ _).drew).tr K4); obtain ⟨d0, d1, d2, d3⟩ := cc)
    all_goals
      have K5 : Kp w w4 := HKW.out.tr ((show Kp W W.drew from (Below.refl _ _).drew).tr K4)
      have HR := Lib.hid (HREP.out w4 K5)
      clear K4 K5
      go_wp2_with (go_at_call 83; refine HR.out.mono ?_; rintro e w5 ⟨va, vb, rfl, hva, hvb, K6⟩; refine Hid.out ?_)
      refine Lib.hid ?_
      go_wp2
      go_ret2
      exact ⟨va, vb, rfl, ⟨ga, gb, A', B', hva, hvb, hne, h1, h2, HP.out⟩, K6⟩
end Go.Proofs.YtijadodleiiomaaDoor
