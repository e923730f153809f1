/-
  rational.formOf, the other forms: by walking its text.
-/
import Derived.Test.YtmnnnoeenfmckaaGreatDoorBp
namespace Go.Proofs.YtmnnnoeenfmckaaGreatDoor
open Go.RowKit

theorem trimp_len (m p : List UInt8) : (Lib.trimPrefix m p).length ≤ m.length := by
  unfold Lib.trimPrefix
  split
  · rw [List.length_drop]; omega
  · exact Nat.le_refl _

/-- formOf says that the text has none of the forms. -/
def FNo (e : Ending) : Prop := ∃ (b : Bool) (x y : ByteArray) (p : Int), e = .returned (.tuple #[.agg #[.bool b, .string x, .string y, .int .i64 p], .bool false])

theorem exp_small (q : List UInt8) : -1000 < (if expOk q = true then expV q else 0) ∧ (if expOk q = true then expV q else 0) < 1000 := by
  by_cases he : expOk q = true
  · rw [if_pos he]
    cases q with
    | nil => simp [expV]
    | cons c t =>
      have he2 : ((decide (c.toNat = 69) || decide (c.toNat = 101)) && expB t) = true := he
      rw [Bool.and_eq_true] at he2
      have h3 := he2.2
      unfold expB at h3
      rw [Bool.and_eq_true, Bool.and_eq_true] at h3
      have h4 := of_decide_eq_true h3.1.2
      have h5 := dval_lt (digits_takeWhile (expR t))
      have h6 : dval ((expR t).takeWhile isDig) < 1000 := Nat.lt_of_lt_of_le h5 (Nat.pow_le_pow_right (by decide) h4)
      show -1000 < expZ t ∧ expZ t < 1000
      unfold expZ
      split <;> omega
  · rw [if_neg he]; omega

set_option maxRecDepth 20000 in
set_option maxHeartbeats 4000000 in
theorem formOf_none (s : ByteArray) (w : World) (hs : s.size ≤ 4096) (l d q : List UInt8) (hl : l = Lib.trimPrefix s.data.toList [45]) (hd : d = l.takeWhile isDig) (hq : q = l.dropWhile isDig) (hd0 : d = []) :
    Calls Tryz.prog 91 #[.string s] w fun e w' => FNo e ∧ Kp w w' := by
  obtain ⟨ng, hng⟩ : ∃ n, n = Lib.hasPrefix s.data.toList [45] := ⟨_, rfl⟩
  try rw [← hng]
  have tp : ∀ (m p : List UInt8), (Lib.trimPrefix m p).length ≤ m.length := trimp_len
  have ll : l.length ≤ 4096 := by rw [hl]; exact Nat.le_trans (tp _ _) hs
  have ld : d.length ≤ 4096 := by rw [hd]; exact Nat.le_trans ((List.takeWhile_sublist _).length_le) ll
  have lq : q.length ≤ 4096 := by rw [hq]; exact Nat.le_trans ((List.dropWhile_sublist _).length_le) ll
  have HCP := Lib.hid (cutp_any s ⟨#[45]⟩)
  rw [show (⟨#[45]⟩ : ByteArray).data.toList = [45] from rfl, ← hl, ← hng] at HCP
  have HC1 := Lib.hid (fun (t : ByteArray) (h : t.data.toList = l) w' => (show Calls Tryz.prog 126 #[.string t] w' fun e w2 => ∃ x y : ByteArray, e = .returned (.tuple #[.string x, .string y]) ∧ x.data.toList = d ∧ y.data.toList = q ∧ Kp w' w2 from by
    have h3 := cut2_any t w' (by have h2 := len_data t; rw [h] at h2; omega)
    rw [h, ← hd, ← hq] at h3
    exact h3))
  have HD0 := Lib.hid (show d.isEmpty = true by rw [hd0]; rfl)
  clear hl hd hq hd0 hng tp ll ld lq
  have HNEW := Lib.hid (Fm.new w (.bool ng) (.string ⟨#[]⟩) (.string ⟨#[49]⟩) (.int .i64 0))
  go_enter Tryz.func91, Tryz.ntmps91
  go_wp2_with (go_at_call 125; (with_reducible refine (HCP.out _).mono ?_); rintro e w1 ⟨t1, rfl, ht1, rfl⟩; refine Hid.out ?_)
  refine Lib.hid ?_
  have HC1a := Lib.hid (HC1.out t1 ht1)
  clear ht1
  go_wp2_with (go_at_call 126; (with_reducible refine (HC1a.out _).mono ?_); rintro e w2 ⟨x2, y2, rfl, hx2, hy2, k2⟩; refine Hid.out ?_)
  refine Lib.hid ?_
  have T2 := Lib.hid (HNEW.out.kp k2)
  clear k2
  obtain ⟨n0, n1, n2, n3⟩ := T2.out.nb.cells
  obtain ⟨z0, z1, z2, z3⟩ := T2.out.nb.fz
  have f1 := em_of (t := x2) (b := true) (by rw [hx2]; exact HD0.out)
  have HX2 := Lib.hid hx2
  have T3 := Lib.hid (T2.out.set (T2.out.nb.set1 (.string x2)))
  clear hx2 hy2
  obtain ⟨r0, r1, r2, r3⟩ := T2.out.rr.cells
  obtain ⟨y0, y1, y2', y3⟩ := T2.out.rr.fz
  have hng1 : ¬ (w.heap.size + 1 = w.heap.size) := by omega
  have hng2 : ¬ (w.heap.size = w.heap.size + 1) := by omega
  go_wp2
  have T6 := T3.out
  obtain ⟨k0, k1, k2, k3⟩ := (T6.rr.put (.bool ng) (.string x2) (.string ⟨#[49]⟩) (.int .i64 (0))).cells
  exact bodyPost_ret (v := .tuple #[.agg #[.bool ng, .string x2, .string ⟨#[49]⟩, .int .i64 (0)], .bool (false)]) (by simp [results, Tryz.results91, go_sem, k0, k1, k2, k3]) rfl ⟨⟨_, _, _, _, rfl⟩, (((T6.k.setCell (Nat.le_refl _) _).setCell (Nat.le_refl _) _).setCell (Nat.le_refl _) _).setCell (Nat.le_refl _) _⟩

set_option maxRecDepth 20000 in
set_option maxHeartbeats 4000000 in
theorem formOf_slash0 (s : ByteArray) (w : World) (hs : s.size ≤ 4096) (l d q : List UInt8) (hl : l = Lib.trimPrefix s.data.toList [45]) (hd : d = l.takeWhile isDig) (hq : q = l.dropWhile isDig) (r b q2 : List UInt8) (hd0 : d ≠ []) (h47 : Lib.hasPrefix q [47] = true) (hr : r = Lib.trimPrefix q [47]) (hb : b = r.takeWhile isDig) (hq2 : q2 = r.dropWhile isDig) (hb0 : b = []) :
    Calls Tryz.prog 91 #[.string s] w fun e w' => FNo e ∧ Kp w w' := by
  obtain ⟨ng, hng⟩ : ∃ n, n = Lib.hasPrefix s.data.toList [45] := ⟨_, rfl⟩
  try rw [← hng]
  have tp : ∀ (m p : List UInt8), (Lib.trimPrefix m p).length ≤ m.length := trimp_len
  have ll : l.length ≤ 4096 := by rw [hl]; exact Nat.le_trans (tp _ _) hs
  have ld : d.length ≤ 4096 := by rw [hd]; exact Nat.le_trans ((List.takeWhile_sublist _).length_le) ll
  have lq : q.length ≤ 4096 := by rw [hq]; exact Nat.le_trans ((List.dropWhile_sublist _).length_le) ll
  have HCP := Lib.hid (cutp_any s ⟨#[45]⟩)
  rw [show (⟨#[45]⟩ : ByteArray).data.toList = [45] from rfl, ← hl, ← hng] at HCP
  have HC1 := Lib.hid (fun (t : ByteArray) (h : t.data.toList = l) w' => (show Calls Tryz.prog 126 #[.string t] w' fun e w2 => ∃ x y : ByteArray, e = .returned (.tuple #[.string x, .string y]) ∧ x.data.toList = d ∧ y.data.toList = q ∧ Kp w' w2 from by
    have h3 := cut2_any t w' (by have h2 := len_data t; rw [h] at h2; omega)
    rw [h, ← hd, ← hq] at h3
    exact h3))
  have lr : r.length ≤ 4096 := by rw [hr]; exact Nat.le_trans (tp _ _) lq
  have HP47 := Lib.hid (fun (t : ByteArray) (h : t.data.toList = q) w' => (show Calls Tryz.prog 125 #[.string t, .string ⟨#[47]⟩] w' fun e w2 => ∃ x : ByteArray, e = .returned (.tuple #[.string x, .bool true]) ∧ x.data.toList = r ∧ w2 = w' from by
    refine (cutp_any t ⟨#[47]⟩ w').mono ?_
    rintro e w2 ⟨x, he, hx, hw⟩
    rw [h, show (⟨#[47]⟩ : ByteArray).data.toList = [47] from rfl, h47] at he
    rw [h, show (⟨#[47]⟩ : ByteArray).data.toList = [47] from rfl, ← hr] at hx
    exact ⟨x, he, hx, hw⟩))
  have HC2 := Lib.hid (fun (t : ByteArray) (h : t.data.toList = r) w' => (show Calls Tryz.prog 126 #[.string t] w' fun e w2 => ∃ x y : ByteArray, e = .returned (.tuple #[.string x, .string y]) ∧ x.data.toList = b ∧ y.data.toList = q2 ∧ Kp w' w2 from by
    have h3 := cut2_any t w' (by have h2 := len_data t; rw [h] at h2; omega)
    rw [h, ← hb, ← hq2] at h3
    exact h3))
  have HD0 := Lib.hid (show d.isEmpty = false by cases d with
    | nil => exact absurd rfl hd0
    | cons c t => rfl)
  have HB0 := Lib.hid (show b.isEmpty = true by rw [hb0]; rfl)
  clear hl hd hq hd0 h47 hr hb hq2 hb0 hng tp ll ld lq lr
  have HNEW := Lib.hid (Fm.new w (.bool ng) (.string ⟨#[]⟩) (.string ⟨#[49]⟩) (.int .i64 0))
  go_enter Tryz.func91, Tryz.ntmps91
  go_wp2_with (go_at_call 125; (with_reducible refine (HCP.out _).mono ?_); rintro e w1 ⟨t1, rfl, ht1, rfl⟩; refine Hid.out ?_)
  refine Lib.hid ?_
  have HC1a := Lib.hid (HC1.out t1 ht1)
  clear ht1
  go_wp2_with (go_at_call 126; (with_reducible refine (HC1a.out _).mono ?_); rintro e w2 ⟨x2, y2, rfl, hx2, hy2, k2⟩; refine Hid.out ?_)
  refine Lib.hid ?_
  have T2 := Lib.hid (HNEW.out.kp k2)
  clear k2
  obtain ⟨n0, n1, n2, n3⟩ := T2.out.nb.cells
  obtain ⟨z0, z1, z2, z3⟩ := T2.out.nb.fz
  have f1 := em_of (t := x2) (b := false) (by rw [hx2]; exact HD0.out)
  have HX2 := Lib.hid hx2
  have T3 := Lib.hid (T2.out.set (T2.out.nb.set1 (.string x2)))
  have HPa := Lib.hid (HP47.out y2 hy2)
  clear hx2 hy2
  go_wp2_with (go_at_call 125; (with_reducible refine (HPa.out _).mono ?_); rintro e w3 ⟨x4, rfl, hx4, rfl⟩; refine Hid.out ?_)
  refine Lib.hid ?_
  have HC2a := Lib.hid (HC2.out x4 hx4)
  clear hx4
  go_wp2_with (go_at_call 126; (with_reducible refine (HC2a.out _).mono ?_); rintro e w4 ⟨x5, y5, rfl, hx5, hy5, k4⟩; refine Hid.out ?_)
  refine Lib.hid ?_
  have T4 := Lib.hid (T3.out.kp k4)
  clear k4 n0 n1 n2 n3 z0 z1 z2 z3
  obtain ⟨n0, n1, n2, n3⟩ := T4.out.nb.cells
  obtain ⟨z0, z1, z2, z3⟩ := T4.out.nb.fz
  have f2 := em_of (t := x5) (b := true) (by rw [hx5]; exact HB0.out)
  have HX5 := Lib.hid hx5
  have T5 := Lib.hid (T4.out.set (T4.out.nb.set2 (.string x5)))
  clear hx5 hy5
  obtain ⟨r0, r1, r2, r3⟩ := T4.out.rr.cells
  obtain ⟨y0, y1, y2', y3⟩ := T4.out.rr.fz
  have hng1 : ¬ (w.heap.size + 1 = w.heap.size) := by omega
  have hng2 : ¬ (w.heap.size = w.heap.size + 1) := by omega
  go_wp2
  have T6 := T5.out
  obtain ⟨k0, k1, k2, k3⟩ := (T6.rr.put (.bool ng) (.string x2) (.string x5) (.int .i64 (0))).cells
  exact bodyPost_ret (v := .tuple #[.agg #[.bool ng, .string x2, .string x5, .int .i64 (0)], .bool (false)]) (by simp [results, Tryz.results91, go_sem, k0, k1, k2, k3]) rfl ⟨⟨_, _, _, _, rfl⟩, (((T6.k.setCell (Nat.le_refl _) _).setCell (Nat.le_refl _) _).setCell (Nat.le_refl _) _).setCell (Nat.le_refl _) _⟩

set_option maxRecDepth 20000 in
set_option maxHeartbeats 4000000 in
theorem formOf_slash1 (s : ByteArray) (w : World) (hs : s.size ≤ 4096) (l d q : List UInt8) (hl : l = Lib.trimPrefix s.data.toList [45]) (hd : d = l.takeWhile isDig) (hq : q = l.dropWhile isDig) (r b q2 : List UInt8) (hd0 : d ≠ []) (h47 : Lib.hasPrefix q [47] = true) (hr : r = Lib.trimPrefix q [47]) (hb : b = r.takeWhile isDig) (hq2 : q2 = r.dropWhile isDig) (hb0 : b ≠ []) :
    Calls Tryz.prog 91 #[.string s] w fun e w' => ∃ (ds es : ByteArray), e = .returned (.tuple #[.agg #[.bool (Lib.hasPrefix s.data.toList [45]), .string ds, .string es, .int .i64 0], .bool q2.isEmpty]) ∧ ds.data.toList = d ∧ es.data.toList = b ∧ Kp w w' := by
  obtain ⟨ng, hng⟩ : ∃ n, n = Lib.hasPrefix s.data.toList [45] := ⟨_, rfl⟩
  try rw [← hng]
  have tp : ∀ (m p : List UInt8), (Lib.trimPrefix m p).length ≤ m.length := trimp_len
  have ll : l.length ≤ 4096 := by rw [hl]; exact Nat.le_trans (tp _ _) hs
  have ld : d.length ≤ 4096 := by rw [hd]; exact Nat.le_trans ((List.takeWhile_sublist _).length_le) ll
  have lq : q.length ≤ 4096 := by rw [hq]; exact Nat.le_trans ((List.dropWhile_sublist _).length_le) ll
  have HCP := Lib.hid (cutp_any s ⟨#[45]⟩)
  rw [show (⟨#[45]⟩ : ByteArray).data.toList = [45] from rfl, ← hl, ← hng] at HCP
  have HC1 := Lib.hid (fun (t : ByteArray) (h : t.data.toList = l) w' => (show Calls Tryz.prog 126 #[.string t] w' fun e w2 => ∃ x y : ByteArray, e = .returned (.tuple #[.string x, .string y]) ∧ x.data.toList = d ∧ y.data.toList = q ∧ Kp w' w2 from by
    have h3 := cut2_any t w' (by have h2 := len_data t; rw [h] at h2; omega)
    rw [h, ← hd, ← hq] at h3
    exact h3))
  have lr : r.length ≤ 4096 := by rw [hr]; exact Nat.le_trans (tp _ _) lq
  have HP47 := Lib.hid (fun (t : ByteArray) (h : t.data.toList = q) w' => (show Calls Tryz.prog 125 #[.string t, .string ⟨#[47]⟩] w' fun e w2 => ∃ x : ByteArray, e = .returned (.tuple #[.string x, .bool true]) ∧ x.data.toList = r ∧ w2 = w' from by
    refine (cutp_any t ⟨#[47]⟩ w').mono ?_
    rintro e w2 ⟨x, he, hx, hw⟩
    rw [h, show (⟨#[47]⟩ : ByteArray).data.toList = [47] from rfl, h47] at he
    rw [h, show (⟨#[47]⟩ : ByteArray).data.toList = [47] from rfl, ← hr] at hx
    exact ⟨x, he, hx, hw⟩))
  have HC2 := Lib.hid (fun (t : ByteArray) (h : t.data.toList = r) w' => (show Calls Tryz.prog 126 #[.string t] w' fun e w2 => ∃ x y : ByteArray, e = .returned (.tuple #[.string x, .string y]) ∧ x.data.toList = b ∧ y.data.toList = q2 ∧ Kp w' w2 from by
    have h3 := cut2_any t w' (by have h2 := len_data t; rw [h] at h2; omega)
    rw [h, ← hb, ← hq2] at h3
    exact h3))
  have HD0 := Lib.hid (show d.isEmpty = false by cases d with
    | nil => exact absurd rfl hd0
    | cons c t => rfl)
  have HB0 := Lib.hid (show b.isEmpty = false by cases b with
    | nil => exact absurd rfl hb0
    | cons c t => rfl)
  obtain ⟨qe, hqe⟩ : ∃ b, b = q2.isEmpty := ⟨_, rfl⟩
  rw [← hqe]
  have HQE := Lib.hid hqe.symm
  clear hqe
  clear hl hd hq hd0 h47 hr hb hq2 hb0 hng tp ll ld lq lr
  have HNEW := Lib.hid (Fm.new w (.bool ng) (.string ⟨#[]⟩) (.string ⟨#[49]⟩) (.int .i64 0))
  go_enter Tryz.func91, Tryz.ntmps91
  go_wp2_with (go_at_call 125; (with_reducible refine (HCP.out _).mono ?_); rintro e w1 ⟨t1, rfl, ht1, rfl⟩; refine Hid.out ?_)
  refine Lib.hid ?_
  have HC1a := Lib.hid (HC1.out t1 ht1)
  clear ht1
  go_wp2_with (go_at_call 126; (with_reducible refine (HC1a.out _).mono ?_); rintro e w2 ⟨x2, y2, rfl, hx2, hy2, k2⟩; refine Hid.out ?_)
  refine Lib.hid ?_
  have T2 := Lib.hid (HNEW.out.kp k2)
  clear k2
  obtain ⟨n0, n1, n2, n3⟩ := T2.out.nb.cells
  obtain ⟨z0, z1, z2, z3⟩ := T2.out.nb.fz
  have f1 := em_of (t := x2) (b := false) (by rw [hx2]; exact HD0.out)
  have HX2 := Lib.hid hx2
  have T3 := Lib.hid (T2.out.set (T2.out.nb.set1 (.string x2)))
  have HPa := Lib.hid (HP47.out y2 hy2)
  clear hx2 hy2
  go_wp2_with (go_at_call 125; (with_reducible refine (HPa.out _).mono ?_); rintro e w3 ⟨x4, rfl, hx4, rfl⟩; refine Hid.out ?_)
  refine Lib.hid ?_
  have HC2a := Lib.hid (HC2.out x4 hx4)
  clear hx4
  go_wp2_with (go_at_call 126; (with_reducible refine (HC2a.out _).mono ?_); rintro e w4 ⟨x5, y5, rfl, hx5, hy5, k4⟩; refine Hid.out ?_)
  refine Lib.hid ?_
  have T4 := Lib.hid (T3.out.kp k4)
  clear k4 n0 n1 n2 n3 z0 z1 z2 z3
  obtain ⟨n0, n1, n2, n3⟩ := T4.out.nb.cells
  obtain ⟨z0, z1, z2, z3⟩ := T4.out.nb.fz
  have f2 := em_of (t := x5) (b := false) (by rw [hx5]; exact HB0.out)
  have f3 := em_of (t := y5) (b := qe) (by rw [hy5]; exact HQE.out)
  have HX5 := Lib.hid hx5
  have T5 := Lib.hid (T4.out.set (T4.out.nb.set2 (.string x5)))
  clear hx5 hy5
  obtain ⟨r0, r1, r2, r3⟩ := T4.out.rr.cells
  obtain ⟨y0, y1, y2', y3⟩ := T4.out.rr.fz
  have hng1 : ¬ (w.heap.size + 1 = w.heap.size) := by omega
  have hng2 : ¬ (w.heap.size = w.heap.size + 1) := by omega
  go_wp2
  have T6 := T5.out
  obtain ⟨k0, k1, k2, k3⟩ := (T6.rr.put (.bool ng) (.string x2) (.string x5) (.int .i64 (0))).cells
  exact bodyPost_ret (v := .tuple #[.agg #[.bool ng, .string x2, .string x5, .int .i64 (0)], .bool (qe)]) (by simp [results, Tryz.results91, go_sem, k0, k1, k2, k3]) rfl ⟨x2, x5, rfl, HX2.out, HX5.out, (((T6.k.setCell (Nat.le_refl _) _).setCell (Nat.le_refl _) _).setCell (Nat.le_refl _) _).setCell (Nat.le_refl _) _⟩

set_option maxRecDepth 20000 in
set_option maxHeartbeats 4000000 in
theorem formOf_dot0 (s : ByteArray) (w : World) (hs : s.size ≤ 4096) (l d q : List UInt8) (hl : l = Lib.trimPrefix s.data.toList [45]) (hd : d = l.takeWhile isDig) (hq : q = l.dropWhile isDig) (r b q2 : List UInt8) (hd0 : d ≠ []) (h47 : Lib.hasPrefix q [47] = false) (h46 : Lib.hasPrefix q [46] = true) (hr : r = Lib.trimPrefix q [46]) (hb : b = r.takeWhile isDig) (hq2 : q2 = r.dropWhile isDig) (hb0 : b = []) :
    Calls Tryz.prog 91 #[.string s] w fun e w' => FNo e ∧ Kp w w' := by
  obtain ⟨ng, hng⟩ : ∃ n, n = Lib.hasPrefix s.data.toList [45] := ⟨_, rfl⟩
  try rw [← hng]
  have tp : ∀ (m p : List UInt8), (Lib.trimPrefix m p).length ≤ m.length := trimp_len
  have ll : l.length ≤ 4096 := by rw [hl]; exact Nat.le_trans (tp _ _) hs
  have ld : d.length ≤ 4096 := by rw [hd]; exact Nat.le_trans ((List.takeWhile_sublist _).length_le) ll
  have lq : q.length ≤ 4096 := by rw [hq]; exact Nat.le_trans ((List.dropWhile_sublist _).length_le) ll
  have HCP := Lib.hid (cutp_any s ⟨#[45]⟩)
  rw [show (⟨#[45]⟩ : ByteArray).data.toList = [45] from rfl, ← hl, ← hng] at HCP
  have HC1 := Lib.hid (fun (t : ByteArray) (h : t.data.toList = l) w' => (show Calls Tryz.prog 126 #[.string t] w' fun e w2 => ∃ x y : ByteArray, e = .returned (.tuple #[.string x, .string y]) ∧ x.data.toList = d ∧ y.data.toList = q ∧ Kp w' w2 from by
    have h3 := cut2_any t w' (by have h2 := len_data t; rw [h] at h2; omega)
    rw [h, ← hd, ← hq] at h3
    exact h3))
  have lr : r.length ≤ 4096 := by rw [hr]; exact Nat.le_trans (tp _ _) lq
  have HP47 := Lib.hid (fun (t : ByteArray) (h : t.data.toList = q) w' => (show Calls Tryz.prog 125 #[.string t, .string ⟨#[47]⟩] w' fun e w2 => ∃ x : ByteArray, e = .returned (.tuple #[.string x, .bool false]) ∧ w2 = w' from by
    refine (cutp_any t ⟨#[47]⟩ w').mono ?_
    rintro e w2 ⟨x, he, _, hw⟩
    rw [h, show (⟨#[47]⟩ : ByteArray).data.toList = [47] from rfl, h47] at he
    exact ⟨x, he, hw⟩))
  have HP46 := Lib.hid (fun (t : ByteArray) (h : t.data.toList = q) w' => (show Calls Tryz.prog 125 #[.string t, .string ⟨#[46]⟩] w' fun e w2 => ∃ x : ByteArray, e = .returned (.tuple #[.string x, .bool true]) ∧ x.data.toList = r ∧ w2 = w' from by
    refine (cutp_any t ⟨#[46]⟩ w').mono ?_
    rintro e w2 ⟨x, he, hx, hw⟩
    rw [h, show (⟨#[46]⟩ : ByteArray).data.toList = [46] from rfl, h46] at he
    rw [h, show (⟨#[46]⟩ : ByteArray).data.toList = [46] from rfl, ← hr] at hx
    exact ⟨x, he, hx, hw⟩))
  have HC2 := Lib.hid (fun (t : ByteArray) (h : t.data.toList = r) w' => (show Calls Tryz.prog 126 #[.string t] w' fun e w2 => ∃ x y : ByteArray, e = .returned (.tuple #[.string x, .string y]) ∧ x.data.toList = b ∧ y.data.toList = q2 ∧ Kp w' w2 from by
    have h3 := cut2_any t w' (by have h2 := len_data t; rw [h] at h2; omega)
    rw [h, ← hb, ← hq2] at h3
    exact h3))
  have HD0 := Lib.hid (show d.isEmpty = false by cases d with
    | nil => exact absurd rfl hd0
    | cons c t => rfl)
  have HB0 := Lib.hid (show b.isEmpty = true by rw [hb0]; rfl)
  clear hl hd hq hd0 h47 h46 hr hb hq2 hb0 hng tp ll ld lq lr
  have HNEW := Lib.hid (Fm.new w (.bool ng) (.string ⟨#[]⟩) (.string ⟨#[49]⟩) (.int .i64 0))
  go_enter Tryz.func91, Tryz.ntmps91
  go_wp2_with (go_at_call 125; (with_reducible refine (HCP.out _).mono ?_); rintro e w1 ⟨t1, rfl, ht1, rfl⟩; refine Hid.out ?_)
  refine Lib.hid ?_
  have HC1a := Lib.hid (HC1.out t1 ht1)
  clear ht1
  go_wp2_with (go_at_call 126; (with_reducible refine (HC1a.out _).mono ?_); rintro e w2 ⟨x2, y2, rfl, hx2, hy2, k2⟩; refine Hid.out ?_)
  refine Lib.hid ?_
  have T2 := Lib.hid (HNEW.out.kp k2)
  clear k2
  obtain ⟨n0, n1, n2, n3⟩ := T2.out.nb.cells
  obtain ⟨z0, z1, z2, z3⟩ := T2.out.nb.fz
  have f1 := em_of (t := x2) (b := false) (by rw [hx2]; exact HD0.out)
  have HX2 := Lib.hid hx2
  have T3 := Lib.hid (T2.out.set (T2.out.nb.set1 (.string x2)))
  have HPa := Lib.hid (HP47.out y2 hy2)
  have HPb := Lib.hid (HP46.out y2 hy2)
  clear hx2 hy2
  go_wp2_with (first
    | (go_at_call 125; (with_reducible refine (HPa.out _).mono ?_); rintro e w3 ⟨x3, rfl, rfl⟩)
    | (go_at_call 125; (with_reducible refine (HPb.out _).mono ?_); rintro e w3 ⟨x4, rfl, hx4, rfl⟩; refine Hid.out ?_))
  refine Lib.hid ?_
  have HC2a := Lib.hid (HC2.out x4 hx4)
  clear hx4
  go_wp2_with (go_at_call 126; (with_reducible refine (HC2a.out _).mono ?_); rintro e w4 ⟨x5, y5, rfl, hx5, hy5, k4⟩; refine Hid.out ?_)
  refine Lib.hid ?_
  have T4 := Lib.hid (T3.out.kp k4)
  clear k4 n0 n1 n2 n3 z0 z1 z2 z3
  obtain ⟨n0, n1, n2, n3⟩ := T4.out.nb.cells
  obtain ⟨z0, z1, z2, z3⟩ := T4.out.nb.fz
  have f2 := em_of (t := x5) (b := true) (by rw [hx5]; exact HB0.out)
  clear hx5 hy5
  obtain ⟨r0, r1, r2, r3⟩ := T4.out.rr.cells
  obtain ⟨y0, y1, y2', y3⟩ := T4.out.rr.fz
  have hng1 : ¬ (w.heap.size + 1 = w.heap.size) := by omega
  have hng2 : ¬ (w.heap.size = w.heap.size + 1) := by omega
  go_wp2
  have T6 := T4.out
  obtain ⟨k0, k1, k2, k3⟩ := (T6.rr.put (.bool ng) (.string x2) (.string ⟨#[49]⟩) (.int .i64 (0))).cells
  exact bodyPost_ret (v := .tuple #[.agg #[.bool ng, .string x2, .string ⟨#[49]⟩, .int .i64 (0)], .bool (false)]) (by simp [results, Tryz.results91, go_sem, k0, k1, k2, k3]) rfl ⟨⟨_, _, _, _, rfl⟩, (((T6.k.setCell (Nat.le_refl _) _).setCell (Nat.le_refl _) _).setCell (Nat.le_refl _) _).setCell (Nat.le_refl _) _⟩

set_option maxRecDepth 20000 in
set_option maxHeartbeats 4000000 in
theorem formOf_plain (s : ByteArray) (w : World) (hs : s.size ≤ 4096) (l d q : List UInt8) (hl : l = Lib.trimPrefix s.data.toList [45]) (hd : d = l.takeWhile isDig) (hq : q = l.dropWhile isDig) (hd0 : d ≠ []) (h47 : Lib.hasPrefix q [47] = false) (h46 : Lib.hasPrefix q [46] = false) :
    Calls Tryz.prog 91 #[.string s] w fun e w' => ∃ (ds : ByteArray) (pw : Int), e = .returned (.tuple #[.agg #[.bool (Lib.hasPrefix s.data.toList [45]), .string ds, .string ⟨#[49]⟩, .int .i64 pw], .bool (expOk q)]) ∧ ds.data.toList = d ∧ pw = (if expOk q = true then expV q else 0) ∧ Kp w w' := by
  obtain ⟨ng, hng⟩ : ∃ n, n = Lib.hasPrefix s.data.toList [45] := ⟨_, rfl⟩
  try rw [← hng]
  have tp : ∀ (m p : List UInt8), (Lib.trimPrefix m p).length ≤ m.length := trimp_len
  have ll : l.length ≤ 4096 := by rw [hl]; exact Nat.le_trans (tp _ _) hs
  have ld : d.length ≤ 4096 := by rw [hd]; exact Nat.le_trans ((List.takeWhile_sublist _).length_le) ll
  have lq : q.length ≤ 4096 := by rw [hq]; exact Nat.le_trans ((List.dropWhile_sublist _).length_le) ll
  have HCP := Lib.hid (cutp_any s ⟨#[45]⟩)
  rw [show (⟨#[45]⟩ : ByteArray).data.toList = [45] from rfl, ← hl, ← hng] at HCP
  have HC1 := Lib.hid (fun (t : ByteArray) (h : t.data.toList = l) w' => (show Calls Tryz.prog 126 #[.string t] w' fun e w2 => ∃ x y : ByteArray, e = .returned (.tuple #[.string x, .string y]) ∧ x.data.toList = d ∧ y.data.toList = q ∧ Kp w' w2 from by
    have h3 := cut2_any t w' (by have h2 := len_data t; rw [h] at h2; omega)
    rw [h, ← hd, ← hq] at h3
    exact h3))
  have HP47 := Lib.hid (fun (t : ByteArray) (h : t.data.toList = q) w' => (show Calls Tryz.prog 125 #[.string t, .string ⟨#[47]⟩] w' fun e w2 => ∃ x : ByteArray, e = .returned (.tuple #[.string x, .bool false]) ∧ w2 = w' from by
    refine (cutp_any t ⟨#[47]⟩ w').mono ?_
    rintro e w2 ⟨x, he, _, hw⟩
    rw [h, show (⟨#[47]⟩ : ByteArray).data.toList = [47] from rfl, h47] at he
    exact ⟨x, he, hw⟩))
  have HP46 := Lib.hid (fun (t : ByteArray) (h : t.data.toList = q) w' => (show Calls Tryz.prog 125 #[.string t, .string ⟨#[46]⟩] w' fun e w2 => ∃ x : ByteArray, e = .returned (.tuple #[.string x, .bool false]) ∧ w2 = w' from by
    refine (cutp_any t ⟨#[46]⟩ w').mono ?_
    rintro e w2 ⟨x, he, _, hw⟩
    rw [h, show (⟨#[46]⟩ : ByteArray).data.toList = [46] from rfl, h46] at he
    exact ⟨x, he, hw⟩))
  have HD0 := Lib.hid (show d.isEmpty = false by cases d with
    | nil => exact absurd rfl hd0
    | cons c t => rfl)
  have HEX := Lib.hid (fun (t : ByteArray) (h : t.data.toList = q) w' => (show Calls Tryz.prog 127 #[.string t] w' fun e w2 => e = .returned (.tuple #[.int .i64 (if expOk q = true then expV q else 0), .bool (expOk q)]) ∧ Kp w' w2 from by
    have h3 := exponent_any t w' (by have h2 := len_data t; rw [h] at h2; omega)
    rw [h] at h3
    exact h3))
  have hev := exp_small q
  obtain ⟨ev, hev2⟩ : ∃ v, v = (if expOk q = true then expV q else 0) := ⟨_, rfl⟩
  obtain ⟨eo, heo⟩ : ∃ v, v = expOk q := ⟨_, rfl⟩
  rw [← hev2] at HEX hev ⊢
  rw [← heo] at HEX ⊢
  obtain ⟨ev1, ev2⟩ := hev
  have e1 : IntKind.i64.wrap (0 + ev) = ev := by rw [Int.zero_add]; exact IntWalk.i64_in _ (by omega)
  have e1' : IntKind.i64.wrap ev = ev := IntWalk.i64_in _ (by omega)
  clear hl hd hq hd0 h47 h46 hng tp ll ld lq hev2 heo
  have HNEW := Lib.hid (Fm.new w (.bool ng) (.string ⟨#[]⟩) (.string ⟨#[49]⟩) (.int .i64 0))
  go_enter Tryz.func91, Tryz.ntmps91
  go_wp2_with (go_at_call 125; (with_reducible refine (HCP.out _).mono ?_); rintro e w1 ⟨t1, rfl, ht1, rfl⟩; refine Hid.out ?_)
  refine Lib.hid ?_
  have HC1a := Lib.hid (HC1.out t1 ht1)
  clear ht1
  go_wp2_with (go_at_call 126; (with_reducible refine (HC1a.out _).mono ?_); rintro e w2 ⟨x2, y2, rfl, hx2, hy2, k2⟩; refine Hid.out ?_)
  refine Lib.hid ?_
  have T2 := Lib.hid (HNEW.out.kp k2)
  clear k2
  obtain ⟨n0, n1, n2, n3⟩ := T2.out.nb.cells
  obtain ⟨z0, z1, z2, z3⟩ := T2.out.nb.fz
  have f1 := em_of (t := x2) (b := false) (by rw [hx2]; exact HD0.out)
  have HX2 := Lib.hid hx2
  have T3 := Lib.hid (T2.out.set (T2.out.nb.set1 (.string x2)))
  have HPa := Lib.hid (HP47.out y2 hy2)
  have HPb := Lib.hid (HP46.out y2 hy2)
  have HEXa := Lib.hid (HEX.out y2 hy2)
  clear hx2 hy2
  go_wp2_with (first
    | (go_at_call 125; (with_reducible refine (HPa.out _).mono ?_); rintro e w3 ⟨x3, rfl, rfl⟩)
    | (go_at_call 125; (with_reducible refine (HPb.out _).mono ?_); rintro e w3 ⟨x4, rfl, rfl⟩)
    | (go_at_call 127; (with_reducible refine (HEXa.out _).mono ?_); rintro e w5 ⟨rfl, k5⟩; refine Hid.out ?_))
  refine Lib.hid ?_
  have T5 := Lib.hid (T3.out.kp k5)
  clear k5 n0 n1 n2 n3 z0 z1 z2 z3 f1
  obtain ⟨n0, n1, n2, n3⟩ := T5.out.nb.cells
  obtain ⟨z0, z1, z2, z3⟩ := T5.out.nb.fz
  obtain ⟨r0, r1, r2, r3⟩ := T5.out.rr.cells
  obtain ⟨y0, y1, y2', y3⟩ := T5.out.rr.fz
  have hng1 : ¬ (w.heap.size + 1 = w.heap.size) := by omega
  have hng2 : ¬ (w.heap.size = w.heap.size + 1) := by omega
  go_wp2
  have T6 := T5.out.set (T5.out.nb.set3 (.int .i64 ev))
  obtain ⟨k0, k1, k2, k3⟩ := (T6.rr.put (.bool ng) (.string x2) (.string ⟨#[49]⟩) (.int .i64 (ev))).cells
  exact bodyPost_ret (v := .tuple #[.agg #[.bool ng, .string x2, .string ⟨#[49]⟩, .int .i64 (ev)], .bool (eo)]) (by simp [results, Tryz.results91, go_sem, k0, k1, k2, k3]) rfl ⟨x2, ev, rfl, HX2.out, rfl, (((T6.k.setCell (Nat.le_refl _) _).setCell (Nat.le_refl _) _).setCell (Nat.le_refl _) _).setCell (Nat.le_refl _) _⟩
end Go.Proofs.YtmnnnoeenfmckaaGreatDoor
