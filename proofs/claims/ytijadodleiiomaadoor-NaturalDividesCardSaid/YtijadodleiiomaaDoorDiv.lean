/-
  natural.Div: by walking its text.
-/
import Derived.Test.YtijadodleiiomaaDoorConcat
import Derived.Test.YtijadodleiiomaaDoorLaw
namespace Go.Proofs.YtijadodleiiomaaDoor
open Go.RowKit

theorem of_row (n : Nat) (w : World) (hn : n < 18446744073709551616) :
    Calls Tryd.prog 21 #[.int .u64 n] w fun e w' => ∃ v', e = .returned v' ∧ Row w' w.heap.size v' n ∧ Kp w w' := by
  have hL : Limbs [n % 4294967296, n / 4294967296] := Limbs.cons (by omega) (Limbs.cons (by omega) Limbs.nil)
  have hv : val [n % 4294967296, n / 4294967296] = n := by simp [val]; omega
  have HO := Lib.hid (Own.alloc_new w 45 [n % 4294967296, n / 4294967296])
  have HL := Lib.hid hL
  have HV := Lib.hid hv
  clear hL hv
  go_enter Tryd.func21, Tryd.ntmps21
  go_wp2_with (go_at_call 40; refine (ntrim_of (some ⟨w.heap.size, 0, none⟩) 2 2 [n % 4294967296, n / 4294967296] _ rfl (Nat.le_refl _) (by unfold maxLen; omega) HO.out.sl).mono ?_; rintro e w1 ⟨rfl, rfl⟩)
  go_ret
  exact ⟨_, rfl, HO.out.row HL.out (Nat.le_refl _) rfl HV.out (by unfold maxLen; simp), Kp.alloc _ _⟩

theorem m_nil (w : World) : M w (.slice none 0 0) 0 := by
  refine ⟨none, 0, ?_, ?_, Nat.zero_le _, limbs_toL 0, ?_⟩
  · rw [toL_zero]; rfl
  · rw [toL_zero]; exact Nat.le_refl _
  · rw [toL_zero]; exact fun h => absurd rfl h

theorem trim_top {X : List Nat} (ht : trimL X = X) (h0 : 0 < X.length) : X.getD (X.length - 1) 0 ≠ 0 := by
  intro e
  have h1 := take_snoc X (X.length - 1) (by omega)
  rw [show X.length - 1 + 1 = X.length by omega, List.take_of_length_le (Nat.le_refl _), e] at h1
  have h2 := trimL_snoc_zero (X.take (X.length - 1))
  rw [← h1, ht] at h2
  have h4 := length_trimL (X.take (X.length - 1))
  rw [← h2, List.length_take] at h4
  omega

theorem Own.whole {w : World} {g : Nat} {X : List Nat} (h : Own w 45 g X) (hL : Limbs X) (ht : trimL X = X) {base : Nat} (hb : base ≤ g) (hm : X.length ≤ maxLen) : Row w base (.slice (some ⟨g, 0, none⟩) X.length X.length) (val X) := by
  have := h.row hL hb rfl rfl hm
  rwa [ht] at this

set_option maxRecDepth 20000 in
set_option maxHeartbeats 1000000 in
theorem div_less (a b : Value) (xs ys : List Nat) (w : World) (ha : Rd w a xs) (hb : Rd w b ys) (hl : xs.length ≤ 549755813888) (hn : val ys ≠ 0) (hlt : val xs < val ys) :
    Calls Tryd.prog 29 #[a, b] w fun e w' => ∃ q r, e = .returned (.tuple #[q, r, .int .i64 0]) ∧ M w' q (val xs / val ys) ∧ Row w' w.heap.size r (val xs % val ys) ∧ Kp w w' := by
  obtain ⟨ao, ac, rfl, a1, a2, a3, a4⟩ := ha
  obtain ⟨bo, bc, rfl, b1, b2, b3, b4⟩ := hb
  have HA := Lib.hid (ntrim_at ao ac xs w a1 a2 a4)
  have HB := Lib.hid (ntrim_at bo bc ys w b1 b2 b4)
  have ra := rd_trim a1 a2 a3 a4
  have rb := rd_trim b1 b2 b3 b4
  have A3 := Lib.hid (limbs_trimL a3)
  have B3 := Lib.hid (limbs_trimL b3)
  have B4 := trimL_take ys ▸ b4.take (trimL ys).length
  have A4 := trimL_take xs ▸ a4.take (trimL xs).length
  have ex := val_trimL xs
  have ey := val_trimL ys
  have ti := trim_idem a3
  have tj := trim_idem b3
  have hal := length_trimL xs
  have hbl := length_trimL ys
  unfold maxLen at a2 b2
  clear a3 b3 a4 b4
  obtain ⟨X, hX⟩ : ∃ X, X = trimL xs := ⟨_, rfl⟩
  obtain ⟨Y, hY⟩ : ∃ Y, Y = trimL ys := ⟨_, rfl⟩
  rw [← hX] at HA ra A3 A4 ex ti hal
  rw [← hY] at HB rb B3 B4 ey tj hbl
  rw [← ex, ← ey] at hlt
  rw [← ey] at hn
  rw [← ex, ← ey]
  clear hX hY ex ey
  have HC := Lib.hid (cmp_any _ _ X Y w ra rb)
  have hY0 : 0 < Y.length := by
    rcases Nat.eq_zero_or_pos Y.length with e | e
    · rw [List.length_eq_zero_iff.1 e] at hn; exact absurd rfl hn
    · exact e
  have HRA := Lib.hid ra
  have HRB := Lib.hid rb
  have HTI := Lib.hid ti
  have HTJ := Lib.hid tj
  have HN := Lib.hid hn
  clear ra rb ti tj hn
  have hne : (((Y.length : Nat) : Int) == 0) = false := beq_eq_false_iff_ne.2 (by omega)
  have HV := Lib.hid (cmpv_lt hlt)
  have HD := Lib.hid (Nat.div_eq_of_lt hlt)
  have HM := Lib.hid (Nat.mod_eq_of_lt hlt)
  clear hlt
  go_enter Tryd.func29, Tryd.ntmps29
  go_wp2_with (first
    | (go_at_call 40; first | ((with_reducible refine HA.out.mono ?_); rintro e w1 ⟨rfl, rfl⟩) | ((with_reducible refine HB.out.mono ?_); rintro e w1 ⟨rfl, rfl⟩))
    | (go_at_call 16; refine HC.out.mono ?_; rintro e w2 ⟨rfl, K2⟩; refine Hid.out ?_))
  refine Lib.hid ?_
  rw [HV.out]
  have HCP := Lib.hid (copied_any _ X w2 (HRA.out.kp K2) (by omega))
  rw [HTI.out] at HCP
  go_wp2_with (go_at_call 44; refine HCP.out.mono ?_; rintro e w3 ⟨g, hg, rfl, hO, K3⟩; refine Hid.out ?_)
  refine Lib.hid ?_
  have HO := Lib.hid hO
  clear hO
  go_wp2
  go_ret3
  rw [HD.out, HM.out]
  exact ⟨_, _, rfl, m_nil _, HO.out.whole A3.out HTI.out (Nat.le_trans K2.size hg) (by unfold maxLen; omega), K2.tr K3⟩

set_option maxRecDepth 20000 in
set_option maxHeartbeats 1000000 in
theorem div_small (a b : Value) (xs ys : List Nat) (w : World) (ha : Rd w a xs) (hb : Rd w b ys) (hl : xs.length ≤ 549755813888) (hn : val ys ≠ 0) (hge : ¬ val xs < val ys) (h2 : (trimL xs).length ≤ 2) :
    Calls Tryd.prog 29 #[a, b] w fun e w' => ∃ q r, e = .returned (.tuple #[q, r, .int .i64 0]) ∧ M w' q (val xs / val ys) ∧ Row w' w.heap.size r (val xs % val ys) ∧ Kp w w' := by
  obtain ⟨ao, ac, rfl, a1, a2, a3, a4⟩ := ha
  obtain ⟨bo, bc, rfl, b1, b2, b3, b4⟩ := hb
  have HA := Lib.hid (ntrim_at ao ac xs w a1 a2 a4)
  have HB := Lib.hid (ntrim_at bo bc ys w b1 b2 b4)
  have ra := rd_trim a1 a2 a3 a4
  have rb := rd_trim b1 b2 b3 b4
  have A3 := Lib.hid (limbs_trimL a3)
  have B3 := Lib.hid (limbs_trimL b3)
  have B4 := trimL_take ys ▸ b4.take (trimL ys).length
  have A4 := trimL_take xs ▸ a4.take (trimL xs).length
  have ex := val_trimL xs
  have ey := val_trimL ys
  have ti := trim_idem a3
  have tj := trim_idem b3
  have hal := length_trimL xs
  have hbl := length_trimL ys
  unfold maxLen at a2 b2
  clear a3 b3 a4 b4
  obtain ⟨X, hX⟩ : ∃ X, X = trimL xs := ⟨_, rfl⟩
  obtain ⟨Y, hY⟩ : ∃ Y, Y = trimL ys := ⟨_, rfl⟩
  rw [← hX] at HA ra A3 A4 ex ti hal
  rw [← hY] at HB rb B3 B4 ey tj hbl
  rw [← ex, ← ey] at hge
  rw [← ey] at hn
  rw [← hX] at h2
  rw [← ex, ← ey]
  clear hX hY ex ey
  have HC := Lib.hid (cmp_any _ _ X Y w ra rb)
  have hY0 : 0 < Y.length := by
    rcases Nat.eq_zero_or_pos Y.length with e | e
    · rw [List.length_eq_zero_iff.1 e] at hn; exact absurd rfl hn
    · exact e
  have HRA := Lib.hid ra
  have HRB := Lib.hid rb
  have HTI := Lib.hid ti
  have HTJ := Lib.hid tj
  have HN := Lib.hid hn
  clear ra rb ti tj hn
  have hne : (((Y.length : Nat) : Int) == 0) = false := beq_eq_false_iff_ne.2 (by omega)
  have hYX : Y.length ≤ X.length := by
    rcases Nat.lt_or_ge X.length Y.length with h | h
    · exact absurd (lt_of_length A3.out B3.out (by rw [HTI.out, HTJ.out]; exact h)) hge
    · exact h
  have hcv : (cmpv (val X) (val Y) < 0) = False := by
    refine eq_false ?_
    rcases Nat.lt_or_eq_of_le (Nat.le_of_not_lt hge) with h | h
    · rw [cmpv_gt h]; omega
    · rw [cmpv_eq h.symm]; omega
  have hx : val X < 18446744073709551616 := by
    have h1 := val_lt A3.out
    have h3 : (4294967296 : Nat) ^ X.length ≤ 4294967296 ^ 2 := Nat.pow_le_pow_right (by omega) h2
    omega
  have hy : val Y < 18446744073709551616 := by omega
  obtain ⟨x, hxe⟩ : ∃ x, x = val X := ⟨_, rfl⟩
  obtain ⟨y, hye⟩ : ∃ y, y = val Y := ⟨_, rfl⟩
  have HS1 := Lib.hid (fun w' (k : Kp w w') => small_any _ X w' (HRA.out.kp k) h2)
  have HS2 := Lib.hid (fun w' (k : Kp w w') => small_any _ Y w' (HRB.out.kp k) (by omega))
  obtain ⟨c, hce⟩ : ∃ c, c = cmpv (val X) (val Y) := ⟨_, rfl⟩
  rw [← hxe] at HS1 hx hge
  rw [← hye] at HS2 hy hge
  rw [← hce] at hcv HC
  rw [← hxe, ← hye]
  rw [← hye] at HN
  have hy0 : 0 < y := Nat.pos_of_ne_zero HN.out
  have hy1 : ((y : Int) == 0) = false := beq_eq_false_iff_ne.2 (by omega)
  have hqt : (x : Int).tdiv (y : Int) = ((x / y : Nat) : Int) := rfl
  have hrt : (x : Int).tmod (y : Int) = ((x % y : Nat) : Int) := rfl
  obtain ⟨q, hq⟩ : ∃ q, q = x / y := ⟨_, rfl⟩
  obtain ⟨r, hr⟩ : ∃ r, r = x % y := ⟨_, rfl⟩
  rw [← hq] at hqt
  rw [← hr] at hrt
  rw [← hq, ← hr]
  have hqb : q ≤ x := by rw [hq]; exact Nat.div_le_self _ _
  have hrb : r < y := by rw [hr]; exact Nat.mod_lt _ hy0
  clear hxe hye hge hq hr hce
  go_enter Tryd.func29, Tryd.ntmps29
  go_wp2_with (first
    | (go_at_call 40; first | ((with_reducible refine HA.out.mono ?_); rintro e w1 ⟨rfl, rfl⟩) | ((with_reducible refine HB.out.mono ?_); rintro e w1 ⟨rfl, rfl⟩))
    | (go_at_call 16; refine HC.out.mono ?_; rintro e w2 ⟨rfl, K2⟩; refine Hid.out ?_))
  refine Lib.hid ?_
  go_wp2_with (first
    | (go_at_call 46; first | ((with_reducible refine (HS1.out _ K2).mono ?_); rintro e w3 ⟨rfl, rfl⟩) | ((with_reducible refine (HS2.out _ K2).mono ?_); rintro e w3 ⟨rfl, rfl⟩)))
  have hqw : IntKind.u64.wrap (q : Int) = (q : Int) := IntWalk.u64_in _ (by omega)
  have hrw : IntKind.u64.wrap (r : Int) = (r : Int) := IntWalk.u64_in _ (by omega)
  have HQ := Lib.hid (fun w' => of_row q w' (by omega))
  have HR := Lib.hid (fun w' => of_row r w' (by omega))
  go_region_with (first
    | (go_at_call_of 21 (Value.int .u64 (q : Int)); refine (HQ.out _).mono ?_; rintro e w5 ⟨v5, rfl, h5, K5⟩)
    | (go_at_call_of 21 (Value.int .u64 (r : Int)); refine (HR.out _).mono ?_; rintro e w6 ⟨v6, rfl, h6, K6⟩))
  all_goals go_wp2_with fail
  all_goals go_ret3
  all_goals have K2d : Kp w w3.drew := K2.drew
  all_goals first
    | exact ⟨v5, v6, rfl, h5.m.kp K6, h6.mono (K2d.tr K5).size, (K2d.tr K5).tr K6⟩
    | exact ⟨v5, v6, rfl, h5.m, (h6.kp K5).mono K2d.size, (K2d.tr K6).tr K5⟩
end Go.Proofs.YtijadodleiiomaaDoor
