/-
  natural.Div by one limb, and by two or more: by walking its text.
-/
import Derived.Test.YtijadodleiiomaaDoorDiv
namespace Go.Proofs.YtijadodleiiomaaDoor
open Go.RowKit

theorem val_single {Y : List Nat} {d : Nat} (h1 : Y.length = 1) (e : d = Y.getD 0 0) : val Y = d := by
  match Y, h1, e with
  | [y], _, e => simp [List.getD] at e; simp [val, e]

set_option maxRecDepth 20000 in
set_option maxHeartbeats 1000000 in
theorem div_limb (a b : Value) (xs ys : List Nat) (w : World) (ha : Rd w a xs) (hb : Rd w b ys) (hl : xs.length ≤ 549755813888) (hn : val ys ≠ 0) (hge : ¬ val xs < val ys) (h2 : 2 < (trimL xs).length) (h1 : (trimL ys).length = 1) :
    Calls Tryd.prog 29 #[a, b] w fun e w' => ∃ q r, e = .returned (.tuple #[q, r, .int .i64 0]) ∧ M w' q (val xs / val ys) ∧ Row w' w.heap.size r (val xs % val ys) ∧ Kp w w' := by
  obtain ⟨ao, ac, rfl, a1, a2, a3, a4⟩ := ha
  obtain ⟨bo, bc, rfl, b1, b2, b3, b4⟩ := hb
  have HA := Lib.hid (ntrim_at ao ac xs w a1 a2 a4)
  have HB := Lib.hid (ntrim_at bo bc ys w b1 b2 b4)
  have ra := rd_trim a1 a2 a3 a4
  have rb := rd_trim b1 b2 b3 b4
  have A3 := Lib.hid (limbs_trimL a3)
  have B3 := Lib.hid (limbs_trimL b3)
  have B4 := trimL_take ys ▸ b4.take (trimL ys).length
  have A4 := trimL_take xs ▸ a4.take (trimL xs).length
  have ex := val_trimL xs
  have ey := val_trimL ys
  have ti := trim_idem a3
  have tj := trim_idem b3
  have hal := length_trimL xs
  have hbl := length_trimL ys
  unfold maxLen at a2 b2
  clear a3 b3 a4 b4
  obtain ⟨X, hX⟩ : ∃ X, X = trimL xs := ⟨_, rfl⟩
  obtain ⟨Y, hY⟩ : ∃ Y, Y = trimL ys := ⟨_, rfl⟩
  rw [← hX] at HA ra A3 A4 ex ti hal
  rw [← hY] at HB rb B3 B4 ey tj hbl
  rw [← ex, ← ey] at hge
  rw [← ey] at hn
  rw [← hX] at h2
  rw [← hY] at h1
  rw [← ex, ← ey]
  clear hX hY ex ey
  have HC := Lib.hid (cmp_any _ _ X Y w ra rb)
  have hY0 : 0 < Y.length := by
    rcases Nat.eq_zero_or_pos Y.length with e | e
    · rw [List.length_eq_zero_iff.1 e] at hn; exact absurd rfl hn
    · exact e
  have HRA := Lib.hid ra
  have HRB := Lib.hid rb
  have HTI := Lib.hid ti
  have HTJ := Lib.hid tj
  have HN := Lib.hid hn
  clear ra rb ti tj hn
  have hne : (((Y.length : Nat) : Int) == 0) = false := beq_eq_false_iff_ne.2 (by omega)
  have hcv : (cmpv (val X) (val Y) < 0) = False := by
    refine eq_false ?_
    rcases Nat.lt_or_eq_of_le (Nat.le_of_not_lt hge) with h | h
    · rw [cmpv_gt h]; omega
    · rw [cmpv_eq h.symm]; omega
  obtain ⟨c, hce⟩ : ∃ c, c = cmpv (val X) (val Y) := ⟨_, rfl⟩
  rw [← hce] at hcv HC
  have HGE := Lib.hid hge
  obtain ⟨bb, boff, d, rfl, hcell, hd, HD⟩ := B4.at B3.out 0 (by omega)
  have hyd : val Y = d := val_single h1 HD.out
  have hd0 : 0 < d := by rw [← hyd]; exact Nat.pos_of_ne_zero HN.out
  have heq : (((Y.length : Nat) : Int) == 1) = true := beq_iff_eq.2 (by omega)
  have HYD := Lib.hid hyd
  clear hyd h1 hge hce
  go_enter Tryd.func29, Tryd.ntmps29
  go_wp2_with (first
    | (go_at_call 40; first | ((with_reducible refine HA.out.mono ?_); rintro e w1 ⟨rfl, rfl⟩) | ((with_reducible refine HB.out.mono ?_); rintro e w1 ⟨rfl, rfl⟩))
    | (go_at_call 16; refine HC.out.mono ?_; rintro e w2 ⟨rfl, K2⟩; refine Hid.out ?_))
  refine Lib.hid ?_
  have HCP := Lib.hid (copied_any _ X w2 (HRA.out.kp K2) (by omega))
  rw [HTI.out] at HCP
  have hcell2 := (K2.cell (p := ⟨bb, boff, none⟩) (World.block_lt_of_cell? w _ hcell)).trans hcell
  go_wp2_with (go_at_call 44; refine HCP.out.mono ?_; rintro e w3 ⟨g, hg, rfl, hO3, K3⟩; refine Hid.out ?_)
  refine Lib.hid ?_
  have hgw : w.heap.size ≤ g := Nat.le_trans K2.size hg
  have hcell3 := (K3.cell (p := ⟨bb, boff, none⟩) (World.block_lt_of_cell? w2 _ hcell2)).trans hcell2
  have HDL := Lib.hid (divideLimb_any g X.length X.length d X w3 hO3 A3.out (Nat.le_refl _) (by omega) (Nat.le_refl _) hd0 hd)
  rw [List.take_length] at HDL
  clear hO3
  go_wp2_with (go_at_call 47; refine HDL.out.mono ?_; rintro e w4 ⟨Q, rfl, hO4, hL4, hl4, hv4, hon⟩; refine Hid.out ?_)
  refine Lib.hid ?_
  have hr : val X % d < d := Nat.mod_lt _ hd0
  rw [List.take_of_length_le (by omega)] at hv4
  have HO4 := Lib.hid hO4
  have HL4 := Lib.hid hL4
  have Hl4 := Lib.hid hl4
  have Hv4 := Lib.hid hv4
  have K4 := hon.kp (K2.tr K3) hgw
  have HTQ := Lib.hid (ntrim_of (some ⟨g, 0, none⟩) X.length X.length Q w4 hl4 (Nat.le_refl _) (by unfold maxLen; omega) hO4.sl)
  have HOF := Lib.hid (of_row (val X % d) w4 (by omega))
  clear hO4 hL4 hl4 hv4 hon
  go_wp2_with (first
    | (go_at_call 40; refine HTQ.out.mono ?_; rintro e w5 ⟨rfl, rfl⟩)
    | (go_at_call 21; refine HOF.out.mono ?_; rintro e w6 ⟨v6, rfl, h6, K6⟩))
  go_ret3
  have hq := HO4.out.mag HL4.out _ X.length Hv4.out (by rw [Hl4.out]; exact Nat.le_refl _) (by unfold maxLen; omega)
  rw [HYD.out]
  exact ⟨_, _, rfl, hq.kp K6, h6.mono K4.size, K4.tr K6⟩

set_option maxRecDepth 20000 in
set_option maxHeartbeats 1000000 in
theorem div_high (a b : Value) (xs ys : List Nat) (w : World) (ha : Rd w a xs) (hb : Rd w b ys) (hl : xs.length ≤ 549755813888) (hn : val ys ≠ 0) (hge : ¬ val xs < val ys) (h2 : 2 < (trimL xs).length) (h1 : 2 ≤ (trimL ys).length) (hlow : (trimL ys).getD 0 0 ≠ 0) :
    Calls Tryd.prog 29 #[a, b] w fun e w' => ∃ q r, e = .returned (.tuple #[q, r, .int .i64 0]) ∧ M w' q (val xs / val ys) ∧ Row w' w.heap.size r (val xs % val ys) ∧ Kp w w' := by
  obtain ⟨ao, ac, rfl, a1, a2, a3, a4⟩ := ha
  obtain ⟨bo, bc, rfl, b1, b2, b3, b4⟩ := hb
  have HA := Lib.hid (ntrim_at ao ac xs w a1 a2 a4)
  have HB := Lib.hid (ntrim_at bo bc ys w b1 b2 b4)
  have ra := rd_trim a1 a2 a3 a4
  have rb := rd_trim b1 b2 b3 b4
  have A3 := Lib.hid (limbs_trimL a3)
  have B3 := Lib.hid (limbs_trimL b3)
  have B4 := trimL_take ys ▸ b4.take (trimL ys).length
  have A4 := trimL_take xs ▸ a4.take (trimL xs).length
  have ex := val_trimL xs
  have ey := val_trimL ys
  have ti := trim_idem a3
  have tj := trim_idem b3
  have hal := length_trimL xs
  have hbl := length_trimL ys
  unfold maxLen at a2 b2
  clear a3 b3 a4 b4
  obtain ⟨X, hX⟩ : ∃ X, X = trimL xs := ⟨_, rfl⟩
  obtain ⟨Y, hY⟩ : ∃ Y, Y = trimL ys := ⟨_, rfl⟩
  rw [← hX] at HA ra A3 A4 ex ti hal
  rw [← hY] at HB rb B3 B4 ey tj hbl
  rw [← ex, ← ey] at hge
  rw [← ey] at hn
  rw [← hX] at h2
  rw [← hY] at h1 hlow
  have htop := trim_top tj
  rw [← ex, ← ey]
  clear hX hY ex ey
  have HC := Lib.hid (cmp_any _ _ X Y w ra rb)
  have hY0 : 0 < Y.length := by
    rcases Nat.eq_zero_or_pos Y.length with e | e
    · rw [List.length_eq_zero_iff.1 e] at hn; exact absurd rfl hn
    · exact e
  have HRA := Lib.hid ra
  have HRB := Lib.hid rb
  have HTI := Lib.hid ti
  have HTJ := Lib.hid tj
  have HN := Lib.hid hn
  clear ra rb ti tj hn
  have hne : (((Y.length : Nat) : Int) == 0) = false := beq_eq_false_iff_ne.2 (by omega)
  have hcv : (cmpv (val X) (val Y) < 0) = False := by
    refine eq_false ?_
    rcases Nat.lt_or_eq_of_le (Nat.le_of_not_lt hge) with h | h
    · rw [cmpv_gt h]; omega
    · rw [cmpv_eq h.symm]; omega
  obtain ⟨c, hce⟩ : ∃ c, c = cmpv (val X) (val Y) := ⟨_, rfl⟩
  rw [← hce] at hcv HC
  have HGE := Lib.hid hge
  have hYX : Y.length ≤ X.length := by
    rcases Nat.lt_or_ge X.length Y.length with h | h
    · exact absurd (lt_of_length A3.out B3.out (by rw [HTI.out, HTJ.out]; exact h)) hge
    · exact h
  obtain ⟨bb, boff, d, rfl, hcell, hd, HD⟩ := B4.at B3.out 0 (by omega)
  have hd0 : ((d : Int) == 0) = false := beq_eq_false_iff_ne.2 (by rw [HD.out]; omega)
  have heq : (((Y.length : Nat) : Int) == 1) = false := beq_eq_false_iff_ne.2 (by omega)
  have HTP := Lib.hid (htop (by omega))
  clear htop hge hce hlow
  go_enter Tryd.func29, Tryd.ntmps29
  go_wp2_with (first
    | (go_at_call 40; first | ((with_reducible refine HA.out.mono ?_); rintro e w1 ⟨rfl, rfl⟩) | ((with_reducible refine HB.out.mono ?_); rintro e w1 ⟨rfl, rfl⟩))
    | (go_at_call 16; refine HC.out.mono ?_; rintro e w2 ⟨rfl, K2⟩; refine Hid.out ?_))
  refine Lib.hid ?_
  have hcell2 := (K2.cell (p := ⟨bb, boff, none⟩) (World.block_lt_of_cell? w _ hcell)).trans hcell
  have HDL := Lib.hid (divideLong_any _ _ X Y w2 (HRA.out.kp K2) (HRB.out.kp K2) (by omega) h1 hYX HTP.out)
  go_wp2_with (go_at_call 50; refine HDL.out.mono ?_; rintro e w3 ⟨q, r, rfl, hq, hr, K3⟩; refine Hid.out ?_)
  refine Lib.hid ?_
  go_wp2
  go_ret3
  exact ⟨_, _, rfl, hq, hr.mono K2.size, K2.tr K3⟩
end Go.Proofs.YtijadodleiiomaaDoor
