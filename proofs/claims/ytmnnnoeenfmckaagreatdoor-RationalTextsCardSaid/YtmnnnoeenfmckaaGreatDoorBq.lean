/-
  Several texts in one: Qg, Qt2, Qaw.
-/
import Derived.Test.YtmnnnoeenfmckaaGreatDoorBp
import Derived.Test.YtmnnnoeenfmckaaGreatDoorBo
import Derived.Test.YtmnnnoeenfmckaaGreatDoorBy
import Derived.Test.YtmnnnoeenfmckaaGreatDoorBr
import Derived.Test.YtmnnnoeenfmckaaGreatDoorBb
import Derived.Test.YtmnnnoeenfmckaaGreatDoorBh
import Derived.Test.YtmnnnoeenfmckaaGreatDoorBk

/-
  rational.Parse of a well-formed number: by walking its text.
-/
namespace Go.Proofs.YtmnnnoeenfmckaaGreatDoor
open Go.RowKit

set_option maxRecDepth 20000 in
set_option maxHeartbeats 4000000 in
theorem qparse_good {w : World} {s : ByteArray} {ng : Bool} {ds es : ByteArray} {pw : Int} {X : Rat} {j : Nat} (hs : s.size ≤ 4096) (hF : ∀ w', Calls Tryz.prog 91 #[.string s] w' fun e w2 => e = .returned (.tuple #[.agg #[.bool ng, .string ds, .string es, .int .i64 pw], .bool true]) ∧ Kp w' w2) (hN : ∀ w', Tz w' → Calls Tryz.prog 92 #[.agg #[.bool ng, .string ds, .string es, .int .i64 pw]] w' fun e w2 => ∃ r, e = .returned (.tuple #[r, .int .i64 0]) ∧ RatV w2 r X ∧ Kp w' w2) (hX : RSz j X) (hj : j ≤ 1073741824) (hb : max (bitsN X.num.natAbs) (bitsN X.den) ≤ 2048) (hT : Tz w) :
    Calls Tryz.prog 56 #[.string s] w fun e w' => ∃ r, e = .returned (.tuple #[r, .int .i64 0]) ∧ RatV w' r X ∧ Kp w w' := by
  have HT := Lib.hid (Nul.new w)
  have HZ := Lib.hid hT
  have CF := Lib.hid hF
  have CN := Lib.hid hN
  have CB := Lib.hid (fun w' a (h : RatV w' a X) => qbits_any h hX hj)
  obtain ⟨bb, hbb⟩ : ∃ b, b = max (bitsN X.num.natAbs) (bitsN X.den) := ⟨_, rfl⟩
  rw [← hbb] at CB hb
  have hbd : decide ((2048 : Int) < (bb : Int)) = false := decide_eq_false (by omega)
  have hsd : decide ((4096 : Int) < (s.size : Int)) = false := decide_eq_false (by omega)
  clear hT hF hN hX hj hbb hb
  go_enter Tryz.func56, Tryz.ntmps56
  have KN := HT.out.k
  have Z_e := Lib.hid (HZ.out.kp KN)
  clear KN
  go_wp2_with (go_at_call 91; (with_reducible refine (CF.out _).mono ?_); rintro e w2 ⟨rfl, k2⟩; refine Hid.out ?_)
  refine Lib.hid ?_
  have T_2 := Lib.hid (HT.out.kp k2)
  have Z_2 := Lib.hid (Z_e.out.kp k2)
  clear HT Z_e
  clear k2
  have T_3 := Lib.hid (T_2.out.kp (Kp.alloc _ (Obj.cells #[Value.bool ng, Value.string ds, Value.string es, Value.int IntKind.i64 pw] 77)))
  have Z_3 := Lib.hid (Z_2.out.kp (Kp.alloc _ (Obj.cells #[Value.bool ng, Value.string ds, Value.string es, Value.int IntKind.i64 pw] 77)))
  clear T_2 Z_2
  go_wp2_with (go_at_call 92; (with_reducible refine (CN.out _ Z_3.out).mono ?_); rintro e w4 ⟨vr, rfl, hvr, k4⟩; refine Hid.out ?_)
  refine Lib.hid ?_
  have T_4 := Lib.hid (T_3.out.kp k4)
  have Z_4 := Lib.hid (Z_3.out.kp k4)
  clear T_3 Z_3
  clear k4
  obtain ⟨sgn, q1, r1, s1, q2, r2, s2, rfl⟩ := hvr.lit
  have VR := Lib.hid hvr
  clear hvr
  have VB_4 := Lib.hid (Res.new w4 (.bool sgn) (.slice q1 r1 s1) (.slice q2 r2 s2))
  have T_5 := Lib.hid (T_4.out.kp (Kp.alloc _ (Obj.cells #[Value.bool sgn, Value.slice q1 r1 s1, Value.slice q2 r2 s2] 27)))
  have Z_5 := Lib.hid (Z_4.out.kp (Kp.alloc _ (Obj.cells #[Value.bool sgn, Value.slice q1 r1 s1, Value.slice q2 r2 s2] 27)))
  have V9_5 := Lib.hid (VR.out.kp (Kp.alloc _ (Obj.cells #[Value.bool sgn, Value.slice q1 r1 s1, Value.slice q2 r2 s2] 27)))
  clear T_4 Z_4 VR
  go_wp2_with (go_at_call 54; (with_reducible refine (CB.out _ _ V9_5.out).mono ?_); rintro e w6 ⟨rfl, k6⟩; refine Hid.out ?_)
  refine Lib.hid ?_
  have T_6 := Lib.hid (T_5.out.kp k6)
  have Z_6 := Lib.hid (Z_5.out.kp k6)
  have V9_6 := Lib.hid (V9_5.out.kp k6)
  have VB_6 := Lib.hid (VB_4.out.kp k6)
  clear T_5 Z_5 V9_5 VB_4
  clear k6
  obtain ⟨x0, x1, x2, _⟩ := VB_6.out.cells
  obtain ⟨⟨e0, e1, e2, f0, f1, f2⟩, HPP, HV, HKF⟩ := rat_ends T_6.out.rr T_6.out.k (Below.refl _ _) V9_6.out (by omega)
  obtain ⟨k0, k1, k2⟩ := HPP.out
  go_wp2
  exact bodyPost_ret (v := .tuple #[.agg #[.bool sgn, .slice q1 r1 s1, .slice q2 r2 s2], .int .i64 0]) (by simp [results, Tryz.results56, go_sem, k0, k1, k2]) rfl ⟨_, rfl, HV.out, HKF.out⟩

theorem awake_form (w : World) :
    Calls Tryz.prog 91 #[.string ⟨#[45, 49, 46, 50, 53, 101, 45, 49]⟩] w fun e w' => e = .returned (.tuple #[.agg #[.bool true, .string ⟨#[49, 50, 53]⟩, .string ⟨#[49]⟩, .int .i64 (-3)], .bool true]) ∧ Kp w w' := by
  refine (formOf_dot ⟨#[45, 49, 46, 50, 53, 101, 45, 49]⟩ w (by decide) [49, 46, 50, 53, 101, 45, 49] [49] [46, 50, 53, 101, 45, 49] [50, 53, 101, 45, 49] [50, 53] [101, 45, 49] (by decide) (by decide) (by decide) (by decide) (by decide) (by decide) (by decide) (by decide) (by decide) (by decide)).mono ?_
  rintro e w' ⟨ds, pw, he, hds, hpw, k⟩
  have h1 : ds = ⟨#[49, 50, 53]⟩ := by
    apply ByteArray.ext
    apply Array.ext'
    rw [hds]
    rfl
  have h2 : pw = -3 := by rw [hpw]; decide
  have h3 : expOk [101, 45, 49] = true := by decide
  have h4 : Lib.hasPrefix (⟨#[45, 49, 46, 50, 53, 101, 45, 49]⟩ : ByteArray).data.toList [45] = true := by decide
  rw [h1, h2, h3, h4] at he
  exact ⟨he, k⟩

theorem awake_rat : ratOf true (dval (⟨#[49, 50, 53]⟩ : ByteArray).data.toList) (dval (⟨#[49]⟩ : ByteArray).data.toList * 10 ^ 3) = ratOf true 1 8 := by
  have h := ratOf_scale true 1 8 (c := 125) (by decide)
  exact h

theorem awake_parse (w : World) (hT : Tz w) :
    Calls Tryz.prog 56 #[.string ⟨#[45, 49, 46, 50, 53, 101, 45, 49]⟩] w fun e w' => ∃ v, e = .returned (.tuple #[v, .int .i64 0]) ∧ RatV w' v (ratOf true 1 8) ∧ Kp w w' := by
  obtain ⟨hn, hd⟩ := ratOf_parts (n := 1) (d := 8) true (by decide) (by decide)
  refine qparse_good (j := 1) (by decide) awake_form (fun w' t => ?_) ⟨?_, ?_⟩ (by omega) ?_ hT
  · have h := number_neg (w := w') true ⟨#[49, 50, 53]⟩ ⟨#[49]⟩ (-3) (by decide) (by decide) (by decide) (by decide) (by decide) 3 (by omega) rfl (by omega) t
    rw [awake_rat] at h
    exact h
  · rw [hn]; exact length_toL_le _ 1 (by decide)
  · rw [hd]; exact length_toL_le _ 1 (by decide)
  · rw [hn, hd, sg_natAbs, bitsN_of (k := 0) (by decide) (by decide), bitsN_of (k := 3) (by decide) (by decide)]
    decide
end Go.Proofs.YtmnnnoeenfmckaaGreatDoor

/-
  rational.Text, brepkernelref02.Text: by walking their texts.
-/
namespace Go.Proofs.YtmnnnoeenfmckaaGreatDoor
open Go.RowKit

open Go.Lib (decDigits)
/-- The text of a number. -/
def textR (x : Rat) : List UInt8 := (if x.num < 0 then [45] else []) ++ decDigits x.num.natAbs ++ (if x.den = 1 then [] else 47 :: decDigits x.den)

theorem ba_cat (xs ys : List UInt8) : (⟨xs.toArray⟩ : ByteArray) ++ (⟨ys.toArray⟩ : ByteArray) = ⟨(xs ++ ys).toArray⟩ := by
  apply ByteArray.ext
  simp [ByteArray.data_append]
theorem dec_len9 {n k : Nat} (h : Sz k n) : (decDigits n).length ≤ 10 * k + 1 := dec_len n k (Nat.lt_of_lt_of_le (toL_lt n) (Nat.pow_le_pow_right (by decide) h))
theorem ret_str9 {a b : ByteArray} (h : a = b) : Ending.returned (.string a) = .returned (.string b) := by rw [h]

theorem m_len_zero9 {w : World} {o : Option Addr} {l c n : Nat} (h : M w (.slice o l c) n) : l = 0 ↔ n = 0 := by
  obtain ⟨o', c', e, _⟩ := h
  have := (by simpa using e : o = o' ∧ l = (toL n).length ∧ c = c')
  rw [this.2.1, List.length_eq_zero_iff, toL_nil_iff]

set_option maxRecDepth 20000 in
set_option maxHeartbeats 4000000 in
theorem qtext_any {w : World} {u : Value} {x : Rat} (hu : RatV w u x) {j : Nat} (hs : RSz j x) (hj : j ≤ 1000000) (htab : Lib.TabIs Tryz.prog w "internal/strconv.uint64pow10" .u64 Lib.pow10Tab) :
    Calls Tryz.prog 58 #[u] w fun e w' => e = .returned (.string ⟨(textR x).toArray⟩) ∧ Kp w w' := by
  have HTB := Lib.tabBelow_of_tabIs htab
  unfold textR
  obtain ⟨a1, l1, c1, a2, l2, c2, rfl, m1, m2⟩ := hu.parts
  have HT := Lib.hid (P1.new w (.bool (decide (x.num < 0))) (.slice a1 l1 c1) (.slice a2 l2 c2))
  have HU := Lib.hid hu
  have Hm1 := Lib.hid m1
  have Hm2 := Lib.hid m2
  have CN := Lib.hid (fun w' (kk : Kp w w') v (a : M w' v (x.num.natAbs)) => by have h := text_any v _ w' a (by have := hs.1; unfold Sz at this; omega) (tabKp HTB kk); rw [val_toL] at h; exact h)
  have CD := Lib.hid (fun w' (kk : Kp w w') v (a : M w' v (x.den)) => by have h := text_any v _ w' a (by have := hs.2; unfold Sz at this; omega) (tabKp HTB kk); rw [val_toL] at h; exact h)
  obtain ⟨p, hp⟩ : ∃ b, b = decide (x.num < 0) := ⟨_, rfl⟩
  try rw [← hp] at HT
  try rw [← hp] at HU
  try rw [← hp] at Hm1
  try rw [← hp] at Hm2
  try rw [← hp] at CN
  try rw [← hp] at CD
  try rw [← hp]
  have HPp := Lib.hid hp
  clear hu m1 m2 hp
  have hl2 := m_len_zero9 Hm2.out
  have hpx : (if x.num < 0 then ([45] : List UInt8) else []) = if p = true then [45] else [] := by rw [HPp.out]; by_cases h : x.num < 0 <;> simp [h]
  rw [hpx]
  clear hpx
  obtain ⟨dn, hdn⟩ : ∃ d, d = decDigits x.num.natAbs := ⟨_, rfl⟩
  obtain ⟨dd, hdd⟩ : ∃ d, d = decDigits x.den := ⟨_, rfl⟩
  rw [← hdn] at CN ⊢
  rw [← hdd] at CD ⊢
  have hln : dn.length ≤ 10 * j + 1 := by rw [hdn]; exact dec_len9 hs.1
  have hld : dd.length ≤ 10 * j + 1 := by rw [hdd]; exact dec_len9 hs.2
  have t1 : (9223372036854775807 < 1 + dn.length) = False := eq_false (by omega)
  have t2 : (9223372036854775807 < 1 + dd.length) = False := eq_false (by omega)
  have t3 : (9223372036854775807 < dn.length + (1 + dd.length)) = False := eq_false (by omega)
  have t4 : (9223372036854775807 < 1 + dn.length + (1 + dd.length)) = False := eq_false (by omega)
  have t5 : (9223372036854775807 < dn.length + 1 + (1 + dd.length)) = False := eq_false (by omega)
  have t6 : (9223372036854775807 < dn.length + 1 + (dd.length + 1)) = False := eq_false (by omega)
  clear hdn hdd hs hj hln hld htab HTB
  by_cases h1 : x.den = 1
  · rw [if_pos h1, List.append_nil]
    obtain rfl := hl2.2 (by unfold denOf; rw [if_pos h1])
    clear hl2 CD h1
    cases p
    · skip
      go_enter Tryz.func58, Tryz.ntmps58
      have KN := HT.out.k
      have U_e := Lib.hid (HU.out.kp KN)
      have m1_e := Lib.hid (Hm1.out.kp KN)
      have m2_e := Lib.hid (Hm2.out.kp KN)
      clear KN
      obtain ⟨g0, g1, g2, _⟩ := HT.out.ra.cells
      go_wp2_with (go_at_call 96; (with_reducible refine (CN.out _ HT.out.k _ m1_e.out).mono ?_); rintro e w2 ⟨rfl, k2⟩; refine Hid.out ?_)
      refine Lib.hid ?_
      have T_2 := Lib.hid (HT.out.kp k2)
      have U_2 := Lib.hid (U_e.out.kp k2)
      have m1_2 := Lib.hid (m1_e.out.kp k2)
      have m2_2 := Lib.hid (m2_e.out.kp k2)
      clear HT U_e m1_e m2_e
      clear k2
      obtain ⟨g0, g1, g2, _⟩ := T_2.out.ra.cells
      go_wp2
      go_ret
      exact ⟨ret_str9 (by apply ByteArray.ext; simp), T_2.out.k⟩
    · skip
      go_enter Tryz.func58, Tryz.ntmps58
      have KN := HT.out.k
      have U_e := Lib.hid (HU.out.kp KN)
      have m1_e := Lib.hid (Hm1.out.kp KN)
      have m2_e := Lib.hid (Hm2.out.kp KN)
      clear KN
      obtain ⟨g0, g1, g2, _⟩ := HT.out.ra.cells
      go_wp2_with (go_at_call 96; (with_reducible refine (CN.out _ HT.out.k _ m1_e.out).mono ?_); rintro e w2 ⟨rfl, k2⟩; refine Hid.out ?_)
      refine Lib.hid ?_
      have T_2 := Lib.hid (HT.out.kp k2)
      have U_2 := Lib.hid (U_e.out.kp k2)
      have m1_2 := Lib.hid (m1_e.out.kp k2)
      have m2_2 := Lib.hid (m2_e.out.kp k2)
      clear HT U_e m1_e m2_e
      clear k2
      obtain ⟨g0, g1, g2, _⟩ := T_2.out.ra.cells
      go_wp2
      go_ret
      exact ⟨ret_str9 (by apply ByteArray.ext; simp), T_2.out.k⟩
  · rw [if_neg h1]
    have hl20 : 0 < l2 := by
      have h2 : denOf x = x.den := if_neg h1
      rw [h2] at hl2
      have := x.den_nz
      omega
    have hdn : denOf x = x.den := if_neg h1
    rw [hdn] at Hm2
    clear hl2 h1 hdn
    cases p
    · skip
      go_enter Tryz.func58, Tryz.ntmps58
      have KN := HT.out.k
      have U_e := Lib.hid (HU.out.kp KN)
      have m1_e := Lib.hid (Hm1.out.kp KN)
      have m2_e := Lib.hid (Hm2.out.kp KN)
      clear KN
      obtain ⟨g0, g1, g2, _⟩ := HT.out.ra.cells
      go_wp2_with (go_at_call 96; (with_reducible refine (CN.out _ HT.out.k _ m1_e.out).mono ?_); rintro e w2 ⟨rfl, k2⟩; refine Hid.out ?_)
      refine Lib.hid ?_
      have T_2 := Lib.hid (HT.out.kp k2)
      have U_2 := Lib.hid (U_e.out.kp k2)
      have m1_2 := Lib.hid (m1_e.out.kp k2)
      have m2_2 := Lib.hid (m2_e.out.kp k2)
      clear HT U_e m1_e m2_e
      clear k2
      obtain ⟨g0, g1, g2, _⟩ := T_2.out.ra.cells
      go_wp2_with (go_at_call 96; (with_reducible refine (CD.out _ T_2.out.k _ m2_2.out).mono ?_); rintro e w3 ⟨rfl, k3⟩; refine Hid.out ?_)
      refine Lib.hid ?_
      have T_3 := Lib.hid (T_2.out.kp k3)
      have U_3 := Lib.hid (U_2.out.kp k3)
      have m1_3 := Lib.hid (m1_2.out.kp k3)
      have m2_3 := Lib.hid (m2_2.out.kp k3)
      clear T_2 U_2 m1_2 m2_2
      clear k3
      obtain ⟨g0, g1, g2, _⟩ := T_3.out.ra.cells
      go_wp2
      go_ret
      exact ⟨ret_str9 (by apply ByteArray.ext; simp), T_3.out.k⟩
    · skip
      go_enter Tryz.func58, Tryz.ntmps58
      have KN := HT.out.k
      have U_e := Lib.hid (HU.out.kp KN)
      have m1_e := Lib.hid (Hm1.out.kp KN)
      have m2_e := Lib.hid (Hm2.out.kp KN)
      clear KN
      obtain ⟨g0, g1, g2, _⟩ := HT.out.ra.cells
      go_wp2_with (go_at_call 96; (with_reducible refine (CN.out _ HT.out.k _ m1_e.out).mono ?_); rintro e w2 ⟨rfl, k2⟩; refine Hid.out ?_)
      refine Lib.hid ?_
      have T_2 := Lib.hid (HT.out.kp k2)
      have U_2 := Lib.hid (U_e.out.kp k2)
      have m1_2 := Lib.hid (m1_e.out.kp k2)
      have m2_2 := Lib.hid (m2_e.out.kp k2)
      clear HT U_e m1_e m2_e
      clear k2
      obtain ⟨g0, g1, g2, _⟩ := T_2.out.ra.cells
      go_wp2_with (go_at_call 96; (with_reducible refine (CD.out _ T_2.out.k _ m2_2.out).mono ?_); rintro e w3 ⟨rfl, k3⟩; refine Hid.out ?_)
      refine Lib.hid ?_
      have T_3 := Lib.hid (T_2.out.kp k3)
      have U_3 := Lib.hid (U_2.out.kp k3)
      have m1_3 := Lib.hid (m1_2.out.kp k3)
      have m2_3 := Lib.hid (m2_2.out.kp k3)
      clear T_2 U_2 m1_2 m2_2
      clear k3
      obtain ⟨g0, g1, g2, _⟩ := T_3.out.ra.cells
      go_wp2
      go_ret
      exact ⟨ret_str9 (by apply ByteArray.ext; simp), T_3.out.k⟩

set_option maxRecDepth 20000 in
set_option maxHeartbeats 4000000 in
theorem rqtext_any {w : World} {u : Value} {x : Rat} (hu : RatV w u x) {j : Nat} (hs : RSz j x) (hj : j ≤ 1000000) :
    Calls Tryz.prog 59 #[u] w fun e w' => e = .returned (.string ⟨(textR x).toArray⟩) ∧ Kp w w' := by
  unfold textR
  obtain ⟨a1, l1, c1, a2, l2, c2, rfl, m1, m2⟩ := hu.parts
  have HT := Lib.hid (P1.new w (.bool (decide (x.num < 0))) (.slice a1 l1 c1) (.slice a2 l2 c2))
  have HU := Lib.hid hu
  have Hm1 := Lib.hid m1
  have Hm2 := Lib.hid m2
  have CN := Lib.hid (fun w' (kk : Kp w w') v (a : M w' v (x.num.natAbs)) => rtext_any v _ j w' a hs.1 hj)
  have CD := Lib.hid (fun w' (kk : Kp w w') v (a : M w' v (x.den)) => rtext_any v _ j w' a hs.2 hj)
  obtain ⟨p, hp⟩ : ∃ b, b = decide (x.num < 0) := ⟨_, rfl⟩
  try rw [← hp] at HT
  try rw [← hp] at HU
  try rw [← hp] at Hm1
  try rw [← hp] at Hm2
  try rw [← hp] at CN
  try rw [← hp] at CD
  try rw [← hp]
  have HPp := Lib.hid hp
  clear hu m1 m2 hp
  have hl2 := m_len_zero9 Hm2.out
  have hpx : (if x.num < 0 then ([45] : List UInt8) else []) = if p = true then [45] else [] := by rw [HPp.out]; by_cases h : x.num < 0 <;> simp [h]
  rw [hpx]
  clear hpx
  obtain ⟨dn, hdn⟩ : ∃ d, d = decDigits x.num.natAbs := ⟨_, rfl⟩
  obtain ⟨dd, hdd⟩ : ∃ d, d = decDigits x.den := ⟨_, rfl⟩
  rw [← hdn] at CN ⊢
  rw [← hdd] at CD ⊢
  have hln : dn.length ≤ 10 * j + 1 := by rw [hdn]; exact dec_len9 hs.1
  have hld : dd.length ≤ 10 * j + 1 := by rw [hdd]; exact dec_len9 hs.2
  have t1 : (9223372036854775807 < 1 + dn.length) = False := eq_false (by omega)
  have t2 : (9223372036854775807 < 1 + dd.length) = False := eq_false (by omega)
  have t3 : (9223372036854775807 < dn.length + (1 + dd.length)) = False := eq_false (by omega)
  have t4 : (9223372036854775807 < 1 + dn.length + (1 + dd.length)) = False := eq_false (by omega)
  have t5 : (9223372036854775807 < dn.length + 1 + (1 + dd.length)) = False := eq_false (by omega)
  have t6 : (9223372036854775807 < dn.length + 1 + (dd.length + 1)) = False := eq_false (by omega)
  clear hdn hdd hs hj hln hld
  by_cases h1 : x.den = 1
  · rw [if_pos h1, List.append_nil]
    obtain rfl := hl2.2 (by unfold denOf; rw [if_pos h1])
    clear hl2 CD h1
    cases p
    · skip
      go_enter Tryz.func59, Tryz.ntmps59
      have KN := HT.out.k
      have U_e := Lib.hid (HU.out.kp KN)
      have m1_e := Lib.hid (Hm1.out.kp KN)
      have m2_e := Lib.hid (Hm2.out.kp KN)
      clear KN
      obtain ⟨g0, g1, g2, _⟩ := HT.out.ra.cells
      go_wp2_with (go_at_call 97; (with_reducible refine (CN.out _ HT.out.k _ m1_e.out).mono ?_); rintro e w2 ⟨rfl, k2⟩; refine Hid.out ?_)
      refine Lib.hid ?_
      have T_2 := Lib.hid (HT.out.kp k2)
      have U_2 := Lib.hid (U_e.out.kp k2)
      have m1_2 := Lib.hid (m1_e.out.kp k2)
      have m2_2 := Lib.hid (m2_e.out.kp k2)
      clear HT U_e m1_e m2_e
      clear k2
      obtain ⟨g0, g1, g2, _⟩ := T_2.out.ra.cells
      go_wp2
      go_ret
      exact ⟨ret_str9 (by apply ByteArray.ext; simp), T_2.out.k⟩
    · skip
      go_enter Tryz.func59, Tryz.ntmps59
      have KN := HT.out.k
      have U_e := Lib.hid (HU.out.kp KN)
      have m1_e := Lib.hid (Hm1.out.kp KN)
      have m2_e := Lib.hid (Hm2.out.kp KN)
      clear KN
      obtain ⟨g0, g1, g2, _⟩ := HT.out.ra.cells
      go_wp2_with (go_at_call 97; (with_reducible refine (CN.out _ HT.out.k _ m1_e.out).mono ?_); rintro e w2 ⟨rfl, k2⟩; refine Hid.out ?_)
      refine Lib.hid ?_
      have T_2 := Lib.hid (HT.out.kp k2)
      have U_2 := Lib.hid (U_e.out.kp k2)
      have m1_2 := Lib.hid (m1_e.out.kp k2)
      have m2_2 := Lib.hid (m2_e.out.kp k2)
      clear HT U_e m1_e m2_e
      clear k2
      obtain ⟨g0, g1, g2, _⟩ := T_2.out.ra.cells
      go_wp2
      go_ret
      exact ⟨ret_str9 (by apply ByteArray.ext; simp), T_2.out.k⟩
  · rw [if_neg h1]
    have hl20 : 0 < l2 := by
      have h2 : denOf x = x.den := if_neg h1
      rw [h2] at hl2
      have := x.den_nz
      omega
    have hdn : denOf x = x.den := if_neg h1
    rw [hdn] at Hm2
    clear hl2 h1 hdn
    cases p
    · skip
      go_enter Tryz.func59, Tryz.ntmps59
      have KN := HT.out.k
      have U_e := Lib.hid (HU.out.kp KN)
      have m1_e := Lib.hid (Hm1.out.kp KN)
      have m2_e := Lib.hid (Hm2.out.kp KN)
      clear KN
      obtain ⟨g0, g1, g2, _⟩ := HT.out.ra.cells
      go_wp2_with (go_at_call 97; (with_reducible refine (CN.out _ HT.out.k _ m1_e.out).mono ?_); rintro e w2 ⟨rfl, k2⟩; refine Hid.out ?_)
      refine Lib.hid ?_
      have T_2 := Lib.hid (HT.out.kp k2)
      have U_2 := Lib.hid (U_e.out.kp k2)
      have m1_2 := Lib.hid (m1_e.out.kp k2)
      have m2_2 := Lib.hid (m2_e.out.kp k2)
      clear HT U_e m1_e m2_e
      clear k2
      obtain ⟨g0, g1, g2, _⟩ := T_2.out.ra.cells
      go_wp2_with (go_at_call 97; (with_reducible refine (CD.out _ T_2.out.k _ m2_2.out).mono ?_); rintro e w3 ⟨rfl, k3⟩; refine Hid.out ?_)
      refine Lib.hid ?_
      have T_3 := Lib.hid (T_2.out.kp k3)
      have U_3 := Lib.hid (U_2.out.kp k3)
      have m1_3 := Lib.hid (m1_2.out.kp k3)
      have m2_3 := Lib.hid (m2_2.out.kp k3)
      clear T_2 U_2 m1_2 m2_2
      clear k3
      obtain ⟨g0, g1, g2, _⟩ := T_3.out.ra.cells
      go_wp2
      go_ret
      exact ⟨ret_str9 (by apply ByteArray.ext; simp), T_3.out.k⟩
    · skip
      go_enter Tryz.func59, Tryz.ntmps59
      have KN := HT.out.k
      have U_e := Lib.hid (HU.out.kp KN)
      have m1_e := Lib.hid (Hm1.out.kp KN)
      have m2_e := Lib.hid (Hm2.out.kp KN)
      clear KN
      obtain ⟨g0, g1, g2, _⟩ := HT.out.ra.cells
      go_wp2_with (go_at_call 97; (with_reducible refine (CN.out _ HT.out.k _ m1_e.out).mono ?_); rintro e w2 ⟨rfl, k2⟩; refine Hid.out ?_)
      refine Lib.hid ?_
      have T_2 := Lib.hid (HT.out.kp k2)
      have U_2 := Lib.hid (U_e.out.kp k2)
      have m1_2 := Lib.hid (m1_e.out.kp k2)
      have m2_2 := Lib.hid (m2_e.out.kp k2)
      clear HT U_e m1_e m2_e
      clear k2
      obtain ⟨g0, g1, g2, _⟩ := T_2.out.ra.cells
      go_wp2_with (go_at_call 97; (with_reducible refine (CD.out _ T_2.out.k _ m2_2.out).mono ?_); rintro e w3 ⟨rfl, k3⟩; refine Hid.out ?_)
      refine Lib.hid ?_
      have T_3 := Lib.hid (T_2.out.kp k3)
      have U_3 := Lib.hid (U_2.out.kp k3)
      have m1_3 := Lib.hid (m1_2.out.kp k3)
      have m2_3 := Lib.hid (m2_2.out.kp k3)
      clear T_2 U_2 m1_2 m2_2
      clear k3
      obtain ⟨g0, g1, g2, _⟩ := T_3.out.ra.cells
      go_wp2
      go_ret
      exact ⟨ret_str9 (by apply ByteArray.ext; simp), T_3.out.k⟩
end Go.Proofs.YtmnnnoeenfmckaaGreatDoor

/-
  brepkernellaw02.awake: by the contracts.
-/
namespace Go.Proofs.YtmnnnoeenfmckaaGreatDoor
open Go.RowKit

open Go.Lib (decDigits)
/-- How far a walk has come. -/
structure Kq (w wc : World) : Prop where
  k : Kp w wc
theorem Kq.kp {w wc w' : World} (h : Kq w wc) (k : Kp wc w') : Kq w w' := ⟨h.k.tr k⟩

theorem dig_small {n : Nat} (h : n < 10) : decDigits n = [UInt8.ofNat (48 + n)] := by
  rw [decDigits, dif_pos h]

theorem a_parts : (ratOf true 3 2).num = -3 ∧ (ratOf true 3 2).den = 2 := ratOf_parts (n := 3) (d := 2) true (by decide) (by decide)
theorem b_parts : (ratOf true 1 8).num = -1 ∧ (ratOf true 1 8).den = 8 := ratOf_parts (n := 1) (d := 8) true (by decide) (by decide)
theorem a_low : ratOf (decide ((6 : Int) < 0) != decide ((-4 : Int) < 0)) (6 : Int).natAbs (-4 : Int).natAbs = ratOf true 3 2 := by
  have h := ratOf_scale true 3 2 (c := 2) (by decide)
  exact h
theorem a_text : textR (ratOf true 3 2) = [45, 51, 47, 50] := by
  unfold textR
  rw [a_parts.1, a_parts.2, show (-3 : Int).natAbs = 3 from rfl, dig_small (by decide), dig_small (by decide)]
  all_goals decide
theorem b_text : textR (ratOf true 1 8) = [45, 49, 47, 56] := by
  unfold textR
  rw [b_parts.1, b_parts.2, show (-1 : Int).natAbs = 1 from rfl, dig_small (by decide), dig_small (by decide)]
  all_goals decide
theorem f_eq : ((ratOf true 3 2).floor : Rat) = ratOf true 2 1 := by
  rw [Rat.floor_def, a_parts.1, a_parts.2]
  unfold ratOf sg
  rw [if_pos rfl, Rat.mkRat_one]
  rfl
theorem f_text : textR (ratOf true 2 1) = [45, 50] := by
  obtain ⟨h1, h2⟩ := ratOf_parts (n := 2) (d := 1) true (by decide) (by decide)
  unfold textR
  rw [h1, h2, sg_natAbs, dig_small (by decide)]
  all_goals decide
theorem rsz_small (neg : Bool) {n d : Nat} (hd : d ≠ 0) (h : Nat.gcd n d = 1) (hn : n < 4294967296) (hd2 : d < 4294967296) : RSz 1 (ratOf neg n d) := by
  obtain ⟨h1, h2⟩ := ratOf_parts neg hd h
  exact ⟨by rw [h1, sg_natAbs]; exact length_toL_le _ 1 (by simpa using hn), by rw [h2]; exact length_toL_le _ 1 (by simpa using hd2)⟩

set_option maxRecDepth 20000 in
set_option maxHeartbeats 4000000 in
theorem qawake_any (w : World) (hT : Tz w) (htab : Lib.TabIs Tryz.prog w "internal/strconv.uint64pow10" .u64 Lib.pow10Tab) :
    Calls Tryz.prog 14 #[] w fun e w' => e = .returned (.bool true) ∧ Kp w w' := by
  have HTB := Lib.tabBelow_of_tabIs htab
  have HK : Hid (Kq w w) := Lib.hid ⟨Below.refl _ _⟩
  have HZ := Lib.hid hT
  have CM := Lib.hid (fun w' (t : Tz w') => make_any 6 (-4) (by omega) (by omega) (by omega) (by omega) (by omega) w' t)
  rw [a_low] at CM
  have CP := Lib.hid (fun w' (t : Tz w') => awake_parse w' t)
  have SA : RSz 1 (ratOf true 3 2) := rsz_small true (by decide) (by decide) (by decide) (by decide)
  have SB : RSz 1 (ratOf true 1 8) := rsz_small true (by decide) (by decide) (by decide) (by decide)
  have SF : RSz 1 (ratOf true 2 1) := rsz_small true (by decide) (by decide) (by decide) (by decide)
  have CT1 := Lib.hid (fun w' (kk : Kp w w') v (h : RatV w' v (ratOf true 3 2)) => qtext_any h SA (by omega) (tabKp HTB kk))
  rw [a_text] at CT1
  have CT2 := Lib.hid (fun w' (kk : Kp w w') v (h : RatV w' v (ratOf true 1 8)) => qtext_any h SB (by omega) (tabKp HTB kk))
  rw [b_text] at CT2
  have CT3 := Lib.hid (fun w' (kk : Kp w w') v (h : RatV w' v (ratOf true 2 1)) => qtext_any h SF (by omega) (tabKp HTB kk))
  rw [f_text] at CT3
  have CF := Lib.hid (fun w' v (h : RatV w' v (ratOf true 3 2)) (t : Tz w') => qfloor_any h SA (by omega) t)
  rw [f_eq] at CF
  have CV := Lib.hid (fun w' v (h : RatV w' v (ratOf true 3 2)) (t : Tz w') => valid_some h (by rw [a_parts.1]; decide) SA (by omega) t)
  clear hT htab HTB SA SB SF
  go_enter Tryz.func14, Tryz.ntmps14
  go_wp2_with (go_at_call 20; (with_reducible refine (CM.out _ HZ.out).mono ?_); rintro e w1 ⟨vx, rfl, hx, k1⟩; refine Hid.out ?_)
  refine Lib.hid ?_
  have K_1 := Lib.hid (HK.out.kp k1)
  have Z_1 := Lib.hid (HZ.out.kp k1)
  clear HK HZ
  clear k1
  obtain ⟨xs, xq1, xr1, xs1, xq2, xr2, xs2, rfl⟩ := hx.lit
  have Vx_l := Lib.hid hx
  have Bx_l := Lib.hid (Res.new w1 (.bool xs) (.slice xq1 xr1 xs1) (.slice xq2 xr2 xs2))
  clear hx
  have K_2 := Lib.hid (K_1.out.kp (Kp.alloc _ (Obj.cells #[Value.bool xs, Value.slice xq1 xr1 xs1, Value.slice xq2 xr2 xs2] 27)))
  have Z_2 := Lib.hid (Z_1.out.kp (Kp.alloc _ (Obj.cells #[Value.bool xs, Value.slice xq1 xr1 xs1, Value.slice xq2 xr2 xs2] 27)))
  have Vx_2 := Lib.hid (Vx_l.out.kp (Kp.alloc _ (Obj.cells #[Value.bool xs, Value.slice xq1 xr1 xs1, Value.slice xq2 xr2 xs2] 27)))
  clear K_1 Z_1 Vx_l
  go_wp2_with (go_at_call 56; (with_reducible refine (CP.out _ Z_2.out).mono ?_); rintro e w3 ⟨vy, rfl, hy, k3⟩; refine Hid.out ?_)
  refine Lib.hid ?_
  have K_3 := Lib.hid (K_2.out.kp k3)
  have Z_3 := Lib.hid (Z_2.out.kp k3)
  have Vx_3 := Lib.hid (Vx_2.out.kp k3)
  have Bx_3 := Lib.hid (Bx_l.out.kp k3)
  clear K_2 Z_2 Vx_2 Bx_l
  clear k3
  obtain ⟨ys, yq1, yr1, ys1, yq2, yr2, ys2, rfl⟩ := hy.lit
  have Vy_l := Lib.hid hy
  have By_l := Lib.hid (Res.new w3 (.bool ys) (.slice yq1 yr1 ys1) (.slice yq2 yr2 ys2))
  clear hy
  have K_4 := Lib.hid (K_3.out.kp (Kp.alloc _ (Obj.cells #[Value.bool ys, Value.slice yq1 yr1 ys1, Value.slice yq2 yr2 ys2] 27)))
  have Z_4 := Lib.hid (Z_3.out.kp (Kp.alloc _ (Obj.cells #[Value.bool ys, Value.slice yq1 yr1 ys1, Value.slice yq2 yr2 ys2] 27)))
  have Vx_4 := Lib.hid (Vx_3.out.kp (Kp.alloc _ (Obj.cells #[Value.bool ys, Value.slice yq1 yr1 ys1, Value.slice yq2 yr2 ys2] 27)))
  have Bx_4 := Lib.hid (Bx_3.out.kp (Kp.alloc _ (Obj.cells #[Value.bool ys, Value.slice yq1 yr1 ys1, Value.slice yq2 yr2 ys2] 27)))
  have Vy_4 := Lib.hid (Vy_l.out.kp (Kp.alloc _ (Obj.cells #[Value.bool ys, Value.slice yq1 yr1 ys1, Value.slice yq2 yr2 ys2] 27)))
  clear K_3 Z_3 Vx_3 Bx_3 Vy_l
  obtain ⟨ga0, ga1, ga2, _⟩ := Bx_4.out.cells
  obtain ⟨gb0, gb1, gb2, _⟩ := By_l.out.cells
  go_wp2_with (go_at_call 58; (with_reducible refine (CT1.out _ K_4.out.k _ Vx_4.out).mono ?_); rintro e w5 ⟨rfl, k5⟩; refine Hid.out ?_)
  refine Lib.hid ?_
  have K_5 := Lib.hid (K_4.out.kp k5)
  have Z_5 := Lib.hid (Z_4.out.kp k5)
  have Vx_5 := Lib.hid (Vx_4.out.kp k5)
  have Bx_5 := Lib.hid (Bx_4.out.kp k5)
  have Vy_5 := Lib.hid (Vy_4.out.kp k5)
  have By_5 := Lib.hid (By_l.out.kp k5)
  clear K_4 Z_4 Vx_4 Bx_4 Vy_4 By_l
  clear k5
  obtain ⟨ga0, ga1, ga2, _⟩ := Bx_5.out.cells
  obtain ⟨gb0, gb1, gb2, _⟩ := By_5.out.cells
  go_wp2_with (go_at_call 58; (with_reducible refine (CT2.out _ K_5.out.k _ Vy_5.out).mono ?_); rintro e w6 ⟨rfl, k6⟩; refine Hid.out ?_)
  refine Lib.hid ?_
  have K_6 := Lib.hid (K_5.out.kp k6)
  have Z_6 := Lib.hid (Z_5.out.kp k6)
  have Vx_6 := Lib.hid (Vx_5.out.kp k6)
  have Bx_6 := Lib.hid (Bx_5.out.kp k6)
  have Vy_6 := Lib.hid (Vy_5.out.kp k6)
  have By_6 := Lib.hid (By_5.out.kp k6)
  clear K_5 Z_5 Vx_5 Bx_5 Vy_5 By_5
  clear k6
  obtain ⟨ga0, ga1, ga2, _⟩ := Bx_6.out.cells
  obtain ⟨gb0, gb1, gb2, _⟩ := By_6.out.cells
  go_wp2_with (go_at_call 48; (with_reducible refine (CF.out _ _ Vx_6.out Z_6.out).mono ?_); rintro e w7 ⟨vf, rfl, hf, k7⟩; refine Hid.out ?_)
  refine Lib.hid ?_
  have K_7 := Lib.hid (K_6.out.kp k7)
  have Z_7 := Lib.hid (Z_6.out.kp k7)
  have Vx_7 := Lib.hid (Vx_6.out.kp k7)
  have Bx_7 := Lib.hid (Bx_6.out.kp k7)
  have Vy_7 := Lib.hid (Vy_6.out.kp k7)
  have By_7 := Lib.hid (By_6.out.kp k7)
  clear K_6 Z_6 Vx_6 Bx_6 Vy_6 By_6
  have Vf_7 := Lib.hid hf
  clear hf k7
  obtain ⟨ga0, ga1, ga2, _⟩ := Bx_7.out.cells
  obtain ⟨gb0, gb1, gb2, _⟩ := By_7.out.cells
  go_wp2_with (go_at_call 58; (with_reducible refine (CT3.out _ K_7.out.k _ Vf_7.out).mono ?_); rintro e w8 ⟨rfl, k8⟩; refine Hid.out ?_)
  refine Lib.hid ?_
  have K_8 := Lib.hid (K_7.out.kp k8)
  have Z_8 := Lib.hid (Z_7.out.kp k8)
  have Vx_8 := Lib.hid (Vx_7.out.kp k8)
  have Bx_8 := Lib.hid (Bx_7.out.kp k8)
  have Vy_8 := Lib.hid (Vy_7.out.kp k8)
  have By_8 := Lib.hid (By_7.out.kp k8)
  have Vf_8 := Lib.hid (Vf_7.out.kp k8)
  clear K_7 Z_7 Vx_7 Bx_7 Vy_7 By_7 Vf_7
  clear k8
  obtain ⟨ga0, ga1, ga2, _⟩ := Bx_8.out.cells
  obtain ⟨gb0, gb1, gb2, _⟩ := By_8.out.cells
  go_wp2_with (go_at_call 17; (with_reducible refine (CV.out _ _ Vx_8.out Z_8.out).mono ?_); rintro e w9 ⟨rfl, k9⟩; refine Hid.out ?_)
  refine Lib.hid ?_
  have K_9 := Lib.hid (K_8.out.kp k9)
  have Z_9 := Lib.hid (Z_8.out.kp k9)
  have Vx_9 := Lib.hid (Vx_8.out.kp k9)
  have Bx_9 := Lib.hid (Bx_8.out.kp k9)
  have Vy_9 := Lib.hid (Vy_8.out.kp k9)
  have By_9 := Lib.hid (By_8.out.kp k9)
  have Vf_9 := Lib.hid (Vf_8.out.kp k9)
  clear K_8 Z_8 Vx_8 Bx_8 Vy_8 By_8 Vf_8
  clear k9
  obtain ⟨ga0, ga1, ga2, _⟩ := Bx_9.out.cells
  obtain ⟨gb0, gb1, gb2, _⟩ := By_9.out.cells
  go_wp2
  go_ret
  exact ⟨rfl, K_9.out.k⟩
end Go.Proofs.YtmnnnoeenfmckaaGreatDoor
