/-
  rational.Parse of any text.
-/
import Derived.Test.YtmnnnoeenfmckaaGreatDoorQf2
import Derived.Test.YtmnnnoeenfmckaaGreatDoorBq
import Derived.Test.YtmnnnoeenfmckaaGreatDoorPs
namespace Go.Proofs.YtmnnnoeenfmckaaGreatDoor
open Go.RowKit

set_option maxRecDepth 20000 in
set_option maxHeartbeats 4000000 in
theorem qparse_long {w : World} {s : ByteArray} (hs : 4096 < s.size) :
    Calls Tryz.prog 56 #[.string s] w fun e w' => ∃ r, e = .returned (.tuple #[r, .int .i64 2]) ∧ RatV w' r 0 ∧ Kp w w' := by
  have hsd : decide ((4096 : Int) < (s.size : Int)) = true := decide_eq_true (by omega)
  have HK := Lib.hid (fun o => Kp.alloc w o)
  go_enter Tryz.func56, Tryz.ntmps56
  go_wp2
  exact bodyPost_ret (v := .tuple #[.agg #[.bool false, .slice none 0 0, .slice none 0 0], .int .i64 2]) (by simp [results, Tryz.results56, go_sem]) rfl ⟨_, rfl, RatV.zero _, HK.out _⟩

set_option maxRecDepth 20000 in
set_option maxHeartbeats 4000000 in
theorem qparse_no {w : World} {s : ByteArray} (hs : s.size ≤ 4096) (hF : ∀ w', Calls Tryz.prog 91 #[.string s] w' fun e w2 => FNo e ∧ Kp w' w2) :
    Calls Tryz.prog 56 #[.string s] w fun e w' => ∃ r, e = .returned (.tuple #[r, .int .i64 4]) ∧ RatV w' r 0 ∧ Kp w w' := by
  have HT := Lib.hid (Nul.new w)
  have CF := Lib.hid hF
  have hsd : decide ((4096 : Int) < (s.size : Int)) = false := decide_eq_false (by omega)
  clear hF
  go_enter Tryz.func56, Tryz.ntmps56
  go_wp2_with (go_at_call 91; (with_reducible refine (CF.out _).mono ?_); rintro e w2 ⟨⟨ng, ds, es, pw, rfl⟩, k2⟩; refine Hid.out ?_)
  refine Lib.hid ?_
  have T_2 := Lib.hid (HT.out.kp k2)
  clear HT k2
  have T_3 := Lib.hid (T_2.out.kp (Kp.alloc _ (Obj.cells #[Value.bool ng, Value.string ds, Value.string es, Value.int IntKind.i64 pw] 77)))
  clear T_2
  obtain ⟨⟨e0, e1, e2, f0, f1, f2⟩, HPP, HV, HKF⟩ := rat_ends T_3.out.rr T_3.out.k (Below.refl _ _) (RatV.zero _) (by omega)
  obtain ⟨k0, k1, k2⟩ := HPP.out
  go_wp2
  exact bodyPost_ret (v := .tuple #[.agg #[.bool false, .slice none 0 0, .slice none 0 0], .int .i64 4]) (by simp [results, Tryz.results56, go_sem, k0, k1, k2]) rfl ⟨_, rfl, HV.out, HKF.out⟩

set_option maxRecDepth 20000 in
set_option maxHeartbeats 4000000 in
theorem qparse_zero {w : World} {s : ByteArray} {ng : Bool} {ds es : ByteArray} {pw : Int} (hs : s.size ≤ 4096) (hF : ∀ w', Calls Tryz.prog 91 #[.string s] w' fun e w2 => e = .returned (.tuple #[.agg #[.bool ng, .string ds, .string es, .int .i64 pw], .bool true]) ∧ Kp w' w2) (hN : ∀ w', Calls Tryz.prog 92 #[.agg #[.bool ng, .string ds, .string es, .int .i64 pw]] w' fun e w2 => e = .returned (.tuple #[.agg #[.bool false, .slice none 0 0, .slice none 0 0], .int .i64 3]) ∧ Kp w' w2) :
    Calls Tryz.prog 56 #[.string s] w fun e w' => ∃ r, e = .returned (.tuple #[r, .int .i64 3]) ∧ RatV w' r 0 ∧ Kp w w' := by
  have HT := Lib.hid (Nul.new w)
  have CF := Lib.hid hF
  have CN := Lib.hid hN
  have hsd : decide ((4096 : Int) < (s.size : Int)) = false := decide_eq_false (by omega)
  clear hF hN
  go_enter Tryz.func56, Tryz.ntmps56
  go_wp2_with (go_at_call 91; (with_reducible refine (CF.out _).mono ?_); rintro e w2 ⟨rfl, k2⟩; refine Hid.out ?_)
  refine Lib.hid ?_
  have T_2 := Lib.hid (HT.out.kp k2)
  clear HT k2
  have T_3 := Lib.hid (T_2.out.kp (Kp.alloc _ (Obj.cells #[Value.bool ng, Value.string ds, Value.string es, Value.int IntKind.i64 pw] 77)))
  clear T_2
  go_wp2_with (go_at_call 92; (with_reducible refine (CN.out _).mono ?_); rintro e w4 ⟨rfl, k4⟩; refine Hid.out ?_)
  refine Lib.hid ?_
  have T_4 := Lib.hid (T_3.out.kp k4)
  clear T_3 k4
  have T_5 := Lib.hid (T_4.out.kp (Kp.alloc _ (Obj.cells #[Value.bool false, Value.slice none 0 0, Value.slice none 0 0] 27)))
  clear T_4
  obtain ⟨⟨e0, e1, e2, f0, f1, f2⟩, HPP, HV, HKF⟩ := rat_ends T_5.out.rr T_5.out.k (Below.refl _ _) (RatV.zero _) (by omega)
  obtain ⟨k0, k1, k2⟩ := HPP.out
  go_wp2
  exact bodyPost_ret (v := .tuple #[.agg #[.bool false, .slice none 0 0, .slice none 0 0], .int .i64 3]) (by simp [results, Tryz.results56, go_sem, k0, k1, k2]) rfl ⟨_, rfl, HV.out, HKF.out⟩

set_option maxRecDepth 20000 in
set_option maxHeartbeats 4000000 in
theorem qparse_size {w : World} {s : ByteArray} {ng : Bool} {ds es : ByteArray} {pw : Int} {X : Rat} {j : Nat} (hs : s.size ≤ 4096) (hF : ∀ w', Calls Tryz.prog 91 #[.string s] w' fun e w2 => e = .returned (.tuple #[.agg #[.bool ng, .string ds, .string es, .int .i64 pw], .bool true]) ∧ Kp w' w2) (hN : ∀ w', Tz w' → Calls Tryz.prog 92 #[.agg #[.bool ng, .string ds, .string es, .int .i64 pw]] w' fun e w2 => ∃ r, e = .returned (.tuple #[r, .int .i64 0]) ∧ RatV w2 r X ∧ Kp w' w2) (hX : RSz j X) (hj : j ≤ 1073741824) (hb : 2048 < max (bitsN X.num.natAbs) (bitsN X.den)) (hT : Tz w) :
    Calls Tryz.prog 56 #[.string s] w fun e w' => ∃ r, e = .returned (.tuple #[r, .int .i64 2]) ∧ RatV w' r 0 ∧ Kp w w' := by
  have HT := Lib.hid (Nul.new w)
  have HZ := Lib.hid hT
  have CF := Lib.hid hF
  have CN := Lib.hid hN
  have CB := Lib.hid (fun w' a (h : RatV w' a X) => qbits_any h hX hj)
  obtain ⟨bb, hbb⟩ : ∃ b, b = max (bitsN X.num.natAbs) (bitsN X.den) := ⟨_, rfl⟩
  rw [← hbb] at CB hb
  have hbd : decide ((2048 : Int) < (bb : Int)) = true := decide_eq_true (by omega)
  have hsd : decide ((4096 : Int) < (s.size : Int)) = false := decide_eq_false (by omega)
  clear hT hF hN hX hj hbb hb
  go_enter Tryz.func56, Tryz.ntmps56
  have KN := HT.out.k
  have Z_e := Lib.hid (HZ.out.kp KN)
  clear KN
  go_wp2_with (go_at_call 91; (with_reducible refine (CF.out _).mono ?_); rintro e w2 ⟨rfl, k2⟩; refine Hid.out ?_)
  refine Lib.hid ?_
  have T_2 := Lib.hid (HT.out.kp k2)
  have Z_2 := Lib.hid (Z_e.out.kp k2)
  clear HT Z_e
  clear k2
  have T_3 := Lib.hid (T_2.out.kp (Kp.alloc _ (Obj.cells #[Value.bool ng, Value.string ds, Value.string es, Value.int IntKind.i64 pw] 77)))
  have Z_3 := Lib.hid (Z_2.out.kp (Kp.alloc _ (Obj.cells #[Value.bool ng, Value.string ds, Value.string es, Value.int IntKind.i64 pw] 77)))
  clear T_2 Z_2
  go_wp2_with (go_at_call 92; (with_reducible refine (CN.out _ Z_3.out).mono ?_); rintro e w4 ⟨vr, rfl, hvr, k4⟩; refine Hid.out ?_)
  refine Lib.hid ?_
  have T_4 := Lib.hid (T_3.out.kp k4)
  clear T_3 Z_3
  clear k4
  obtain ⟨sgn, q1, r1, s1, q2, r2, s2, rfl⟩ := hvr.lit
  have VR := Lib.hid hvr
  clear hvr
  have VB_4 := Lib.hid (Res.new w4 (.bool sgn) (.slice q1 r1 s1) (.slice q2 r2 s2))
  have T_5 := Lib.hid (T_4.out.kp (Kp.alloc _ (Obj.cells #[Value.bool sgn, Value.slice q1 r1 s1, Value.slice q2 r2 s2] 27)))
  have V9_5 := Lib.hid (VR.out.kp (Kp.alloc _ (Obj.cells #[Value.bool sgn, Value.slice q1 r1 s1, Value.slice q2 r2 s2] 27)))
  clear T_4 VR
  go_wp2_with (go_at_call 54; (with_reducible refine (CB.out _ _ V9_5.out).mono ?_); rintro e w6 ⟨rfl, k6⟩; refine Hid.out ?_)
  refine Lib.hid ?_
  have T_6 := Lib.hid (T_5.out.kp k6)
  clear T_5 V9_5 VB_4
  clear k6
  obtain ⟨⟨e0, e1, e2, f0, f1, f2⟩, HPP, HV, HKF⟩ := rat_ends T_6.out.rr T_6.out.k (Below.refl _ _) (RatV.zero _) (by omega)
  obtain ⟨k0, k1, k2⟩ := HPP.out
  go_wp2
  exact bodyPost_ret (v := .tuple #[.agg #[.bool false, .slice none 0 0, .slice none 0 0], .int .i64 2]) (by simp [results, Tryz.results56, go_sem, k0, k1, k2]) rfl ⟨_, rfl, HV.out, HKF.out⟩

theorem good_of {l : List UInt8} {s : ByteArray} (h : s.data.toList = l) (hd : digits l = true) (h0 : l ≠ []) : goodB s = true := by
  have hn : s.size ≠ 0 := fun e => h0 (by rw [← h]; exact List.length_eq_zero_iff.1 (by have := len_data s; omega))
  unfold goodB
  rw [h, hd]
  simp [h0]

theorem ba_eq {s : ByteArray} {l : List UInt8} (h : s.data.toList = l) : s = ⟨l.toArray⟩ := by
  apply ByteArray.ext
  rw [← h]

theorem mul_ten_ne {d n : Nat} (h : d ≠ 0) : d * 10 ^ n ≠ 0 := Nat.mul_ne_zero h (Nat.pos_iff_ne_zero.1 (Nat.pow_pos (by decide)))

/-- Both ways at once: the number is short enough, or not. -/
theorem qparse_sized {w : World} {s : ByteArray} {ng : Bool} {ds es : ByteArray} {pw : Int} {X : Rat} {j : Nat} (hs : s.size ≤ 4096) (hF : ∀ w', Calls Tryz.prog 91 #[.string s] w' fun e w2 => e = .returned (.tuple #[.agg #[.bool ng, .string ds, .string es, .int .i64 pw], .bool true]) ∧ Kp w' w2) (hN : ∀ w', Tz w' → Calls Tryz.prog 92 #[.agg #[.bool ng, .string ds, .string es, .int .i64 pw]] w' fun e w2 => ∃ r, e = .returned (.tuple #[r, .int .i64 0]) ∧ RatV w2 r X ∧ Kp w' w2) (hX : RSz j X) (hj : j ≤ 1073741824) (hT : Tz w) :
    Calls Tryz.prog 56 #[.string s] w fun e w' => ∃ r, e = .returned (.tuple #[r, .int .i64 (sizedR X).1]) ∧ RatV w' r (sizedR X).2 ∧ Kp w w' := by
  by_cases h : 2048 < max (bitsN X.num.natAbs) (bitsN X.den)
  · have he : sizedR X = (2, 0) := by unfold sizedR longR; rw [decide_eq_true h, if_pos rfl]
    rw [he]
    exact qparse_size hs hF hN hX hj h hT
  · have he : sizedR X = (0, X) := by unfold sizedR longR; rw [decide_eq_false h, if_neg (by decide)]
    rw [he]
    exact qparse_good hs hF hN hX hj (Nat.le_of_not_lt h) hT

/-- Digits, and a power of 10. -/
theorem number_ten {w : World} (p : Bool) (ds : ByteArray) (pw : Int) (l : List UInt8) (hl : ds.data.toList = l) (hd : digits l = true) (h0 : l ≠ []) (hs : ds.size ≤ 4096) (hp : -16000 ≤ pw ∧ pw ≤ 16000) (hT : Tz w) :
    Calls Tryz.prog 92 #[.agg #[.bool p, .string ds, .string ⟨#[49]⟩, .int .i64 pw]] w fun e w' => ∃ r, e = .returned (.tuple #[r, .int .i64 0]) ∧ RatV w' r (tenR p (dval l) pw) ∧ Kp w w' := by
  have hg := good_of hl hd h0
  have h1 : dval (⟨#[49]⟩ : ByteArray).data.toList = 1 := rfl
  have hg1 : goodB (⟨#[49]⟩ : ByteArray) = true := by decide
  unfold tenR
  by_cases h : pw < 0
  · rw [if_pos h]
    have := number_neg p ds ⟨#[49]⟩ pw hg hs hg1 (by decide) (by rw [h1]; decide) pw.natAbs (by omega) (by omega) (by omega) hT
    rw [h1, Nat.one_mul, hl] at this
    exact this
  · rw [if_neg h]
    have := number_pos p ds ⟨#[49]⟩ pw hg hs hg1 (by decide) (by rw [h1]; decide) pw.natAbs (by omega) (by omega) hT
    rw [h1, hl] at this
    exact this

theorem szm {a b n m : Nat} (h : Sz a n) (h2 : Sz b m) : Sz (a + b) (n * m) := h.mul h2

theorem rsz_of {neg : Bool} {n d j : Nat} (h : Sz j n) (h2 : Sz j d) (h0 : d ≠ 0) : RSz j (ratOf neg n d) := by
  unfold ratOf
  exact RSz.of_mkRat (by rw [sg_natAbs]; exact h) h2 h0

theorem rsz_ten {p : Bool} {l : List UInt8} {pw : Int} (hd : digits l = true) (hl : l.length ≤ 4096) (hp : -16000 ≤ pw ∧ pw ≤ 16000) : RSz 30000 (tenR p (dval l) pw) := by
  have h1 : Sz 4096 (dval l) := (dval_szk hd).mono hl
  have h2 : Sz 16001 (10 ^ pw.natAbs) := (ten_szk _).mono (by omega)
  unfold tenR
  split
  · exact rsz_of (h1.mono (by decide)) (h2.mono (by decide)) (Nat.pos_iff_ne_zero.1 (Nat.pow_pos (by decide)))
  · exact rsz_of ((szm h1 h2).mono (by decide)) (length_toL_le _ _ (by decide : (1:Nat) < 4294967296 ^ 1) |> fun h => Sz.mono (k := 1) h (by decide)) (by decide)

theorem qparse_any {w : World} (s : ByteArray) (hs : s.size ≤ 4096) (hT : Tz w) :
    Calls Tryz.prog 56 #[.string s] w fun e w' => ∃ r, e = .returned (.tuple #[r, .int .i64 (parseR s.data.toList).1]) ∧ RatV w' r (parseR s.data.toList).2 ∧ Kp w w' := by
  have hlen := len_data s
  unfold parseR
  rw [if_neg (by omega)]
  obtain ⟨l, hl⟩ : ∃ l, l = Lib.trimPrefix s.data.toList [45] := ⟨_, rfl⟩
  obtain ⟨d, hd⟩ : ∃ d, d = l.takeWhile isDig := ⟨_, rfl⟩
  obtain ⟨q, hq⟩ : ∃ d, d = l.dropWhile isDig := ⟨_, rfl⟩
  have ll : l.length ≤ 4096 := by rw [hl]; exact Nat.le_trans (trimp_len _ _) (by omega)
  have ld : d.length ≤ 4096 := by rw [hd]; exact Nat.le_trans ((List.takeWhile_sublist _).length_le) ll
  have lq : q.length ≤ 4096 := by rw [hq]; exact Nat.le_trans ((List.dropWhile_sublist _).length_le) ll
  have lsum : d.length + q.length ≤ 4096 := by
    have := congrArg List.length (List.takeWhile_append_dropWhile (p := isDig) (l := l))
    rw [List.length_append, ← hd, ← hq] at this
    omega
  have hdd : digits d = true := by rw [hd]; exact digits_takeWhile l
  rw [← hl, ← hd, ← hq]
  obtain ⟨ng, hng⟩ : ∃ n, n = Lib.hasPrefix s.data.toList [45] := ⟨_, rfl⟩
  rw [← hng]
  unfold bodyR
  by_cases hd0 : d = []
  · rw [if_pos hd0]
    exact qparse_no hs (fun w' => formOf_none s w' hs l d q hl hd hq hd0)
  · rw [if_neg hd0]
    by_cases h47 : Lib.hasPrefix q [47] = true
    · rw [if_pos h47]
      unfold slashR
      obtain ⟨r, hr⟩ : ∃ r, r = Lib.trimPrefix q [47] := ⟨_, rfl⟩
      obtain ⟨b, hb⟩ : ∃ d, d = r.takeWhile isDig := ⟨_, rfl⟩
      obtain ⟨q2, hq2⟩ : ∃ d, d = r.dropWhile isDig := ⟨_, rfl⟩
      have lr : r.length ≤ 4096 := by rw [hr]; exact Nat.le_trans (trimp_len _ _) lq
      have lb : b.length ≤ 4096 := by rw [hb]; exact Nat.le_trans ((List.takeWhile_sublist _).length_le) lr
      have hbd : digits b = true := by rw [hb]; exact digits_takeWhile r
      rw [← hr, ← hb, ← hq2]
      by_cases hb0 : b = []
      · rw [if_pos (Or.inl hb0)]
        exact qparse_no hs (fun w' => formOf_slash0 s w' hs l d q hl hd hq r b q2 hd0 h47 hr hb hq2 hb0)
      · have F := fun w' => formOf_slash1 s w' hs l d q hl hd hq r b q2 hd0 h47 hr hb hq2 hb0
        by_cases hq0 : q2 = []
        · rw [if_neg (fun h => h.elim hb0 (fun h => h hq0))]
          have F2 : ∀ w', Calls Tryz.prog 91 #[.string s] w' fun e w2 => e = .returned (.tuple #[.agg #[.bool ng, .string ⟨d.toArray⟩, .string ⟨b.toArray⟩, .int .i64 0], .bool true]) ∧ Kp w' w2 := fun w' => (F w').mono fun e w2 ⟨ds, es, he, h1, h2, k⟩ => by
            rw [ba_eq h1, ba_eq h2, hq0, ← hng] at he
            exact ⟨he, k⟩
          have g1 : goodB (⟨d.toArray⟩ : ByteArray) = true := good_of (by simp) hdd hd0
          have g2 : goodB (⟨b.toArray⟩ : ByteArray) = true := good_of (by simp) hbd hb0
          have s1 : (⟨d.toArray⟩ : ByteArray).size ≤ 4096 := by simpa [ByteArray.size] using ld
          have s2 : (⟨b.toArray⟩ : ByteArray).size ≤ 4096 := by simpa [ByteArray.size] using lb
          by_cases hz : dval b = 0
          · rw [if_pos hz]
            exact qparse_zero hs F2 (fun w' => number_zero ng _ _ 0 g1 s1 g2 s2 (by simpa using hz))
          · rw [if_neg hz]
            refine qparse_sized hs F2 (fun w' t => ?_) (rsz_of ((dval_szk hdd).mono ld) ((dval_szk hbd).mono lb) hz) (by decide) hT
            have := number_pos (w := w') ng ⟨d.toArray⟩ ⟨b.toArray⟩ 0 g1 s1 g2 s2 (by simpa using hz) 0 (by decide) rfl t
            simpa using this
        · rw [if_pos (Or.inr hq0)]
          refine qparse_no hs (fun w' => (F w').mono ?_)
          rintro e w2 ⟨ds, es, he, h1, h2, k⟩
          have : q2.isEmpty = false := by cases q2 with
            | nil => exact absurd rfl hq0
            | cons c t => rfl
          rw [this] at he
          exact ⟨⟨_, _, _, _, he⟩, k⟩
    · have h47f : Lib.hasPrefix q [47] = false := by simpa using h47
      rw [if_neg h47]
      by_cases h46 : Lib.hasPrefix q [46] = true
      · rw [if_pos h46]
        unfold dotR
        obtain ⟨r, hr⟩ : ∃ r, r = Lib.trimPrefix q [46] := ⟨_, rfl⟩
        obtain ⟨b, hb⟩ : ∃ d, d = r.takeWhile isDig := ⟨_, rfl⟩
        obtain ⟨q2, hq2⟩ : ∃ d, d = r.dropWhile isDig := ⟨_, rfl⟩
        have lr : r.length ≤ q.length := by rw [hr]; exact trimp_len _ _
        have lb : b.length ≤ q.length := by rw [hb]; exact Nat.le_trans ((List.takeWhile_sublist _).length_le) lr
        have hbd : digits b = true := by rw [hb]; exact digits_takeWhile r
        rw [← hr, ← hb, ← hq2]
        by_cases hb0 : b = []
        · rw [if_pos hb0]
          exact qparse_no hs (fun w' => formOf_dot0 s w' hs l d q hl hd hq r b q2 hd0 h47f h46 hr hb hq2 hb0)
        · rw [if_neg hb0]
          have F := fun w' => formOf_dot s w' hs l d q r b q2 hl hd hq hd0 h47f h46 hr hb hq2 hb0
          unfold endR
          by_cases he : expOk q2 = true
          · rw [if_pos he]
            have hx := exp_small q2
            rw [if_pos he] at hx
            have F2 : ∀ w', Calls Tryz.prog 91 #[.string s] w' fun e w2 => e = .returned (.tuple #[.agg #[.bool ng, .string ⟨(d ++ b).toArray⟩, .string ⟨#[49]⟩, .int .i64 (-(b.length : Int) + expV q2)], .bool true]) ∧ Kp w' w2 := fun w' => (F w').mono fun e w2 ⟨ds, pw, h, h1, h2, k⟩ => by
              rw [he, if_pos rfl] at h2
              rw [ba_eq h1, h2, he, ← hng] at h
              exact ⟨h, k⟩
            have hdb : digits (d ++ b) = true := by unfold digits at *; rw [List.all_append, hdd, hbd]; rfl
            have lab : (d ++ b).length ≤ 4096 := by rw [List.length_append]; omega
            refine qparse_sized hs F2 (fun w' t => number_ten ng _ _ (d ++ b) (by simp) hdb (by simp [hd0]) (by simpa [ByteArray.size] using lab) (by omega) t) (rsz_ten hdb lab (by omega)) (by decide) hT
          · rw [if_neg he]
            refine qparse_no hs (fun w' => (F w').mono ?_)
            rintro e w2 ⟨ds, pw, h, h1, h2, k⟩
            rw [show expOk q2 = false by simpa using he] at h
            exact ⟨⟨_, _, _, _, h⟩, k⟩
      · have h46f : Lib.hasPrefix q [46] = false := by simpa using h46
        rw [if_neg h46]
        have F := fun w' => formOf_plain s w' hs l d q hl hd hq hd0 h47f h46f
        unfold endR
        by_cases he : expOk q = true
        · rw [if_pos he]
          have hx := exp_small q
          rw [if_pos he] at hx
          have F2 : ∀ w', Calls Tryz.prog 91 #[.string s] w' fun e w2 => e = .returned (.tuple #[.agg #[.bool ng, .string ⟨d.toArray⟩, .string ⟨#[49]⟩, .int .i64 (0 + expV q)], .bool true]) ∧ Kp w' w2 := fun w' => (F w').mono fun e w2 ⟨ds, pw, h, h1, h2, k⟩ => by
            rw [he, if_pos rfl] at h2
            rw [ba_eq h1, h2, he, ← hng] at h
            rw [Int.zero_add]
            exact ⟨h, k⟩
          refine qparse_sized hs F2 (fun w' t => number_ten ng _ _ d (by simp) hdd hd0 (by simpa [ByteArray.size] using ld) (by omega) t) (rsz_ten hdd ld (by omega)) (by decide) hT
        · rw [if_neg he]
          refine qparse_no hs (fun w' => (F w').mono ?_)
          rintro e w2 ⟨ds, pw, h, h1, h2, k⟩
          rw [show expOk q = false by simpa using he] at h
          exact ⟨⟨_, _, _, _, h⟩, k⟩

theorem qparse_all {w : World} (s : ByteArray) (hT : Tz w) :
    Calls Tryz.prog 56 #[.string s] w fun e w' => ∃ r, e = .returned (.tuple #[r, .int .i64 (parseR s.data.toList).1]) ∧ RatV w' r (parseR s.data.toList).2 ∧ Kp w w' := by
  by_cases hs : s.size ≤ 4096
  · exact qparse_any s hs hT
  · have hlen := len_data s
    unfold parseR
    rw [if_pos (by omega)]
    exact qparse_long (by omega)
end Go.Proofs.YtmnnnoeenfmckaaGreatDoor
