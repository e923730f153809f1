/-
  natural.Div by one limb, by walking its text.
-/
import Derived.Test.YtijadodleiiomaaDoorText
namespace Go.Proofs.YtijadodleiiomaaDoor
open Go.RowKit

theorem rd_trim {w : World} {ao : Option Addr} {cap : Nat} {xs : List Nat} (h1 : xs.length ≤ cap) (hm : cap ≤ maxLen) (hx : Limbs xs) (hs : Sl w ao xs) : Rd w (.slice ao (trimL xs).length cap) (trimL xs) :=
  ⟨ao, cap, rfl, Nat.le_trans (length_trimL xs) h1, hm, limbs_trimL hx, trimL_take xs ▸ hs.take _⟩

set_option maxHeartbeats 1000000 in
theorem div_one (a b : Value) (xs ys : List Nat) (w : World) (ha : Rd w a xs) (hb : Rd w b ys) (hl : xs.length ≤ 1099511627776) (h2 : 2 < (trimL xs).length) (h1 : (trimL ys).length = 1) :
    Calls Tryd.prog 29 #[a, b] w fun e w' => ∃ q r, e = .returned (.tuple #[q, r, .int .i64 0]) ∧ Rd w' q (toL (val xs / val ys)) ∧ Rd w' r (toL (val xs % val ys)) ∧ Kp w w' := by
  obtain ⟨ao, ac, rfl, a1, a2, a3, a4⟩ := ha
  obtain ⟨bo, bc, rfl, b1, b2, b3, b4⟩ := hb
  have HA := Lib.hid (ntrim_at ao ac xs w a1 a2 a4)
  have HB := Lib.hid (ntrim_at bo bc ys w b1 b2 b4)
  have ra := rd_trim a1 a2 a3 a4
  have rb := rd_trim b1 b2 b3 b4
  have A3 := Lib.hid (limbs_trimL a3)
  have B3 := Lib.hid (limbs_trimL b3)
  have B4 := trimL_take ys ▸ b4.take (trimL ys).length
  have ex := val_trimL xs
  have ey := val_trimL ys
  have ti := trim_idem a3
  have tj := trim_idem b3
  have hbl := lt_of_length (limbs_trimL b3) (limbs_trimL a3) (by rw [trim_idem a3, trim_idem b3]; omega)
  have hal := length_trimL xs
  unfold maxLen at a2 b2
  clear a3 b3 a4 b4
  obtain ⟨X, hX⟩ : ∃ X, X = trimL xs := ⟨_, rfl⟩
  obtain ⟨Y, hY⟩ : ∃ Y, Y = trimL ys := ⟨_, rfl⟩
  rw [← hX] at HA ra A3 ex h2 ti hbl hal
  rw [← hY] at HB rb B3 B4 ey h1 hbl tj
  rw [← ex, ← ey]
  clear hX hY ex ey
  have hC := Lib.hid (cmp_any _ _ X Y w ra rb)
  have HBL := Lib.hid (cmpv_gt hbl)
  obtain ⟨bb, boff, d, rfl, hcell, hd, HD⟩ := B4.at B3.out 0 (by omega)
  have hyd : val Y = d := by
    match Y, h1, HD.out with
    | [y], _, e => simp [List.getD] at e; simp [val, e]
  have hd0 : 0 < d := by
    rcases Nat.eq_zero_or_pos d with e | e
    · match Y, h1, hyd, tj with
      | [y], _, e2, e3 =>
        simp [val] at e2
        rw [e2, e] at e3
        simp [trimL] at e3
    · exact e
  have hne : (((Y.length : Nat) : Int) == 0) = false := beq_eq_false_iff_ne.2 (by omega)
  have heq : (((Y.length : Nat) : Int) == 1) = true := beq_iff_eq.2 (by omega)
  have HTI := Lib.hid ti
  have HYD := Lib.hid hyd
  have HH1 := Lib.hid h1
  have hy0 : 0 < Y.length := by omega
  clear ti tj hyd hbl h1 rb
  go_enter Tryd.func29, Tryd.ntmps29
  go_wp2_with (first
    | (go_at_call 40; first | ((with_reducible refine HA.out.mono ?_); rintro e w1 ⟨rfl, rfl⟩) | ((with_reducible refine HB.out.mono ?_); rintro e w1 ⟨rfl, rfl⟩))
    | (go_at_call 16; refine hC.out.mono ?_; rintro e w2 ⟨rfl, K2⟩; refine Hid.out ?_))
  refine Lib.hid ?_
  rw [HBL.out]
  have HCP := Lib.hid (copied_any _ X w2 (ra.kp K2) (by omega))
  rw [HTI.out] at HCP
  have hcell2 := (K2.cell (p := ⟨bb, boff, none⟩) (World.block_lt_of_cell? w _ hcell)).trans hcell
  go_wp2_with (go_at_call 44; refine HCP.out.mono ?_; rintro e w3 ⟨g, hg, rfl, hO3, K3⟩; refine Hid.out ?_)
  refine Lib.hid ?_
  have hgw : w.heap.size ≤ g := Nat.le_trans K2.size hg
  have hcell3 := (K3.cell (p := ⟨bb, boff, none⟩) (World.block_lt_of_cell? w2 _ hcell2)).trans hcell2
  have HDL := Lib.hid (divideLimb_any g X.length X.length d X w3 hO3 A3.out (Nat.le_refl _) (by omega) (Nat.le_refl _) hd0 hd)
  rw [List.take_length] at HDL
  clear hO3
  go_wp2_with (go_at_call 47; refine HDL.out.mono ?_; rintro e w4 ⟨Q, rfl, hO4, hL4, hl4, hv4, hon⟩; refine Hid.out ?_)
  refine Lib.hid ?_
  have hr : val X % d < d := Nat.mod_lt _ hd0
  rw [List.take_of_length_le (by omega)] at hv4
  have HO4 := Lib.hid hO4
  have HL4 := Lib.hid hL4
  have Hl4 := Lib.hid hl4
  have Hv4 := Lib.hid hv4
  have K4 := hon.kp (K2.tr K3) hgw
  have HTQ := Lib.hid (ntrim_of (some ⟨g, 0, none⟩) X.length X.length Q w4 hl4 (Nat.le_refl _) (by unfold maxLen; omega) hO4.sl)
  have HOF := Lib.hid (of_any (val X % d) w4 (by omega))
  clear hO4 hL4 hl4 hv4 hon
  go_wp2_with (first
    | (go_at_call 40; refine HTQ.out.mono ?_; rintro e w5 ⟨rfl, rfl⟩)
    | (go_at_call 21; refine HOF.out.mono ?_; rintro e w6 ⟨v6, rfl, h6, K6⟩))
  go_ret3
  have hq := HO4.out.mag HL4.out _ X.length Hv4.out (by rw [Hl4.out]; exact Nat.le_refl _) (by unfold maxLen; omega)
  rw [HYD.out]
  exact ⟨_, _, rfl, hq.kp K6, h6, K4.tr K6⟩
end Go.Proofs.YtijadodleiiomaaDoor
