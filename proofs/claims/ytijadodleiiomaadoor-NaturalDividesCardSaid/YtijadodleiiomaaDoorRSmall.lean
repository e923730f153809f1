/-
  brepkernelref01.small, times, shifted: by walking their texts.
-/
import Derived.Test.YtijadodleiiomaaDoorRDivM
import Derived.Test.YtijadodleiiomaaDoorByLimb
import Derived.Test.YtijadodleiiomaaDoorDiv
namespace Go.Proofs.YtijadodleiiomaaDoor
open Go.RowKit

theorem trimL_app {Z X : List Nat} (hX : trimL X = X) (h0 : 0 < X.length) : trimL (Z ++ X) = Z ++ X := by
  have h1 := take_snoc X (X.length - 1) (by omega)
  rw [show X.length - 1 + 1 = X.length by omega, List.take_of_length_le (Nat.le_refl _)] at h1
  rw [h1, ← List.append_assoc, trimL_snoc _ _ (trim_top hX h0)]

/-- The value v, if it is a slice with memory, lies in a block from base on. -/
def New (base : Nat) (v : Value) : Prop := ∀ b off sp l c, v = .slice (some ⟨b, off, sp⟩) l c → base ≤ b

/-- The value v is no slice of the block g. -/
def NotIn (g : Nat) (v : Value) : Prop := ∀ b off sp l c, v = .slice (some ⟨b, off, sp⟩) l c → b ≠ g

theorem New.mono {a b : Nat} {v : Value} (h : New b v) (hab : a ≤ b) : New a v := fun x off sp l c e => Nat.le_trans hab (h x off sp l c e)
theorem New.notIn {a g : Nat} {v : Value} (h : New a v) (hg : g < a) : NotIn g v := fun x off sp l c e => by
  have := h x off sp l c e
  omega

theorem new_nil (base n c : Nat) : New base (.slice none n c) := fun _ _ _ _ _ e => by cases e

theorem owns_new {w : World} {base : Nat} {e : TypeId} {s : Nat} {v : Value} {n : Nat} {xs : List Value} (h : w.ownsRow base e s v n xs) : New base v := by
  rcases h.2 with ⟨rfl, _⟩ | ⟨g, cap, cur, rfl, hb, _⟩
  · exact new_nil _ _ _
  · intro b off sp l c e
    obtain ⟨⟨rfl, _⟩, _⟩ : (g = b ∧ _) ∧ _ := by simpa using e
    exact hb

/-- What is stored into another block does not matter. -/
theorem Rd.put {w : World} {v : Value} {xs : List Nat} {g : Nat} (h : Rd w v xs) (hn : NotIn g v) (j : Nat) (x : Value) : Rd (w.setCell ⟨g, j, none⟩ x) v xs := by
  obtain ⟨ao, cap, rfl, h1, h2, h3, h4⟩ := h
  refine ⟨ao, cap, rfl, h1, h2, h3, fun hne => ?_⟩
  obtain ⟨b, off, rfl, hc⟩ := h4 hne
  refine ⟨b, off, rfl, fun i hi => ?_⟩
  have hb := hn b off none _ _ rfl
  have e := ((Only.refl g w).setCell j x).block b hb
  have h5 := hc i hi
  rw [← h5]
  exact World.cell?_of_block e

theorem trim_new (v : Value) (xs : List Nat) (w : World) (hs : Rd w v xs) (hl : xs.length ≤ 1099511627776) :
    Calls Tryd.prog 39 #[v] w fun e w' => ∃ v', e = .returned v' ∧ Rd w' v' (trimL xs) ∧ New w.heap.size v' ∧ Kp w w' := by
  have hx : Limbs xs := by obtain ⟨_, _, _, _, _, h, _⟩ := hs; exact h
  refine (trim_own v xs w hs hl).mono ?_
  rintro e w' ⟨v', k, he, hO, K⟩
  exact ⟨v', he, Rd.owned hO (limbs_trimL hx), owns_new hO, K⟩

set_option maxRecDepth 20000 in
set_option maxHeartbeats 1000000 in
theorem minus_row (a b : Value) (X ys : List Nat) (w : World) (ha : Rd w a X) (hb : Rd w b ys) (hl : X.length ≤ 1099511627776) (hyl : ys.length ≤ X.length) (hle : val ys ≤ val X) :
    Calls Tryd.prog 45 #[a, b] w fun e w' => ∃ v', e = .returned v' ∧ Rd w' v' (toL (val X - val ys)) ∧ New w.heap.size v' ∧ Kp w w' := by
  obtain ⟨i0, hi, hz0, hz1, hz2⟩ := info_parts infoU32
  obtain ⟨ao, ac, rfl, a1, a2, a3, a4⟩ := ha
  obtain ⟨bo, bc, rfl, b1, b2, b3, b4⟩ := hb
  have A3 := Lib.hid a3
  have B3 := Lib.hid b3
  have HLE := Lib.hid hle
  unfold maxLen at a2 b2
  clear a3 b3 hle
  go_enter Tryd.func45, Tryd.ntmps45
  go_wp2_with (at_make; refine wpList_make_full _ rfl _ _ 22 rfl w.heap.size 45 i0 (.int .u32 0) 1 undU32s hi hz0 hz1 _ _ _ _ X.length rfl rfl rfl rfl (by rw [hz2]; omega) (by unfold maxLen; omega) (Nat.le_refl _) ?_; intro w1 hown hg; have O1 := Lib.hid (Own.of_make hown); have K1 := (Below.refl w.heap.size w).grown hg (Nat.le_refl _) (by intro j hj; cases hj); clear hown hg)
  go_loopw [6, 7] (fun cv i wr => ∃ (k c : Nat) (O : List Nat), k ≤ X.length ∧ i = .int .i64 k ∧ cv = .int .u64 c ∧ c ≤ 1 ∧ Own wr 45 w.heap.size O ∧ O.length = X.length ∧ Limbs O ∧
    val (X.take k) + 4294967296 ^ k * c = val (O.take k) + val (ys.take k) ∧ Kp w wr) (fun _ i _ => X.length - (intOf i).toNat)
  case atStart => exact ⟨0, 0, List.replicate X.length 0, Nat.zero_le _, rfl, rfl, by omega, O1.out, by simp, Limbs.replicate _, by simp [val], K1⟩
  case round =>
    obtain ⟨k, c, O, hk, rfl, rfl, hc, hO, hOl, hOL, hval, K3⟩ := hrel
    have HO := Lib.hid hO
    have HOl := Lib.hid hOl
    have HOL := Lib.hid hOL
    have HV := Lib.hid hval
    clear hO hOl hOL hval
    by_cases hk1 : k < X.length
    · obtain ⟨ab, aoff, x, rfl, hcell, hx, HX⟩ := (a4.kp K3).at A3.out k hk1
      obtain ⟨o, hcl, _, _⟩ := HO.out.at HOL.out k (by rw [HOl.out]; exact hk1)
      have hfz := HO.out.frozen k
      by_cases hk2 : k < ys.length
      · obtain ⟨bb, boff, y, rfl, hcell2, hy, HY⟩ := (b4.kp K3).at B3.out k hk2
        by_cases hlt : x < c + y
        · go_wp2
          go_roundw
          case rel => exact ⟨k + 1, 1, O.set k (x + 4294967296 - (c + y)), by omega, by go_num, rfl, by omega, by
            have h := HO.out.set k (x + 4294967296 - (c + y))
            rw [show (((x + 4294967296 - (c + y) : Nat)) : Int) = (x : Int) + 4294967296 - ((c : Int) + y) by omega] at h
            exact h, by rw [List.length_set]; exact HOl.out, HOL.out.set _ _ (by omega), sub_step (by rw [HOl.out]; exact hk1) HV.out HX.out HY.out (by omega), K3.setCell (Nat.le_refl _) _⟩
          case measure => simp [intOf]; omega
        · go_wp2
          go_roundw
          case rel => exact ⟨k + 1, 0, O.set k (x - (c + y)), by omega, by go_num, rfl, by omega, by
            have h := HO.out.set k (x - (c + y))
            rw [show (((x - (c + y) : Nat)) : Int) = (x : Int) - ((c : Int) + y) by omega] at h
            exact h, by rw [List.length_set]; exact HOl.out, HOL.out.set _ _ (by omega), sub_step (by rw [HOl.out]; exact hk1) HV.out HX.out HY.out (by omega), K3.setCell (Nat.le_refl _) _⟩
          case measure => simp [intOf]; omega
      · have hy0 := Lib.hid (getD_past ys k hk2)
        by_cases hlt : x < c
        · go_wp2
          go_roundw
          case rel => exact ⟨k + 1, 1, O.set k (x + 4294967296 - c), by omega, by go_num, rfl, by omega, by
            have h := HO.out.set k (x + 4294967296 - c)
            rw [show (((x + 4294967296 - c : Nat)) : Int) = (x : Int) + 4294967296 - (c : Int) by omega] at h
            exact h, by rw [List.length_set]; exact HOl.out, HOL.out.set _ _ (by omega), sub_step (by rw [HOl.out]; exact hk1) HV.out HX.out hy0.out (by omega), K3.setCell (Nat.le_refl _) _⟩
          case measure => simp [intOf]; omega
        · go_wp2
          go_roundw
          case rel => exact ⟨k + 1, 0, O.set k (x - c), by omega, by go_num, rfl, by omega, by
            have h := HO.out.set k (x - c)
            rw [show (((x - c : Nat)) : Int) = (x : Int) - (c : Int) by omega] at h
            exact h, by rw [List.length_set]; exact HOl.out, HOL.out.set _ _ (by omega), sub_step (by rw [HOl.out]; exact hk1) HV.out HX.out hy0.out (by omega), K3.setCell (Nat.le_refl _) _⟩
          case measure => simp [intOf]; omega
    · obtain rfl : k = X.length := by omega
      have HF := Lib.hid (sub_fin HOl.out HOL.out hyl HLE.out HV.out)
      have HRd := HO.out.rd HOL.out X.length (by rw [HOl.out]; exact Nat.le_refl _) X.length (Nat.le_refl _) (by unfold maxLen; omega)
      rw [List.take_of_length_le (by rw [HOl.out]; exact Nat.le_refl _)] at HRd
      have HTR := Lib.hid (trim_new _ O wr HRd (by rw [HOl.out]; exact hl))
      have ht := toL_val HOL.out
      rw [HF.out] at ht
      rw [← ht] at HTR
      clear ht HRd
      go_wp2_with (go_at_call 39; refine HTR.out.mono ?_; rintro e w4 ⟨v4, rfl, h4, hn4, K4⟩)
      go_ret
      exact ⟨_, rfl, h4, hn4.mono K3.size, K3.tr K4⟩

theorem minus_new {w : World} {a b : Value} {m n : Nat} (ha : M w a m) (hb : M w b n) (hl : (toL m).length ≤ 1099511627776) (hmn : n ≤ m) :
    Calls Tryd.prog 45 #[a, b] w fun e w' => ∃ v', e = .returned v' ∧ M w' v' (m - n) ∧ New w.heap.size v' ∧ Kp w w' := by
  have := minus_row a b _ _ w ha hb hl (length_mono _ _ hmn) (by rw [val_toL, val_toL]; exact hmn)
  rwa [val_toL, val_toL] at this

theorem ret_sure {a b : Int} (h : a = b) : Ending.returned (.tuple #[.int .u64 a, .bool true]) = .returned (.tuple #[.int .u64 b, .bool true]) := by rw [h]

set_option maxRecDepth 20000 in
set_option maxHeartbeats 1000000 in
theorem rsmall_yes {w : World} {v : Value} {n : Nat} (h : M w v n) (h2 : (toL n).length ≤ 2) :
    Calls Tryd.prog 51 #[v] w fun e w' => e = .returned (.tuple #[.int .u64 (n : Nat), .bool true]) ∧ Kp w w' := by
  obtain ⟨ao, ac, rfl, a1, a2, a3, a4⟩ := h
  have hv := val_toL n
  unfold maxLen at a2
  obtain ⟨X, hX⟩ : ∃ X, X = toL n := ⟨_, rfl⟩
  rw [← hX] at h2 a1 a3 a4 hv ⊢
  clear hX
  match X, h2, a1, a3, a4, hv with
  | [], _, _, _, _, hv =>
    obtain rfl : n = 0 := by simpa [val] using hv.symm
    clear hv
    go_enter Tryd.func51, Tryd.ntmps51
    go_wp2
    go_ret2
    exact ⟨rfl, Below.refl _ _⟩
  | [x], _, a1, a3, a4, hv =>
    obtain rfl : n = x := by simpa [val] using hv.symm
    obtain ⟨b, off, y, rfl, hc, hy, HY⟩ := a4.at a3 0 (by simp)
    obtain rfl : y = n := by have := HY.out; simpa using this
    rw [Nat.add_zero] at hc
    clear hv a4 HY a3
    go_enter Tryd.func51, Tryd.ntmps51
    go_wp2
    go_ret2
    exact ⟨rfl, Below.refl _ _⟩
  | [x, y], _, a1, a3, a4, hv =>
    have hn : n = x + 4294967296 * y := by simpa [val] using hv.symm
    obtain ⟨b, off, x', rfl, hc0, hx, HX⟩ := a4.at a3 0 (by simp)
    obtain rfl : x' = x := by have := HX.out; simpa using this
    obtain ⟨b2, off2, y', e2, hc1, hy, HY⟩ := a4.at a3 1 (by simp)
    obtain rfl : y' = y := by have := HY.out; simpa using this
    obtain ⟨rfl, rfl⟩ : b = b2 ∧ off = off2 := by simpa using e2
    rw [Nat.add_zero] at hc0
    have HB := Lib.hid (orpair hx hy)
    rw [← hn] at HB
    clear hv a4 HX HY a3 e2 hn
    go_enter Tryd.func51, Tryd.ntmps51
    go_wp2
    go_quiet (fail)
    go_wp2
    go_ret2
    exact ⟨ret_sure HB.out, Kp.drewN (Below.refl _ _) _⟩

set_option maxRecDepth 20000 in
set_option maxHeartbeats 1000000 in
theorem rsmall_no {w : World} {v : Value} {n : Nat} (h : M w v n) (h2 : 2 < (toL n).length) :
    Calls Tryd.prog 51 #[v] w fun e w' => e = .returned (.tuple #[.int .u64 0, .bool false]) ∧ w = w' := by
  obtain ⟨ao, ac, rfl, a1, a2, a3, a4⟩ := h
  unfold maxLen at a2
  obtain ⟨l, hl⟩ : ∃ l, l = (toL n).length := ⟨_, rfl⟩
  rw [← hl] at h2 a1 ⊢
  have e0 : ((l : Int) == 0) = false := beq_eq_false_iff_ne.2 (by omega)
  have e1 : ((l : Int) == 1) = false := beq_eq_false_iff_ne.2 (by omega)
  have e2 : ((l : Int) == 2) = false := beq_eq_false_iff_ne.2 (by omega)
  clear hl a3 a4
  go_enter Tryd.func51, Tryd.ntmps51
  go_wp2
  go_ret2
  exact ⟨rfl, rfl⟩

theorem sz_limb {d : Nat} (h : d < 4294967296) : Sz 1 d := length_toL_le d 1 (by simpa using h)

set_option maxRecDepth 20000 in
set_option maxHeartbeats 1000000 in
theorem times_m {w : World} {a : Value} {m d : Nat} (ha : M w a m) {k : Nat} (hs : Sz k m) (hk : k ≤ 549755813888) (hd : d < 4294967296) :
    Calls Tryd.prog 55 #[a, .int .u32 (d : Nat)] w fun e w' => ∃ v, e = .returned v ∧ M w' v (m * d) ∧ Kp w w' := by
  have HO := Lib.hid (rof_any d w (by omega))
  have HM := Lib.hid (fun w' v (k : Kp w w') (hv : M w' v d) => rmul_any (ha.kp k) hv hs (sz_limb hd) hk (by omega))
  clear ha hs
  go_enter Tryd.func55, Tryd.ntmps55
  go_wp2_with (go_at_call 22; (with_reducible refine HO.out.mono ?_); rintro e w1 ⟨v1, rfl, h1, K1⟩; refine Hid.out ?_)
  refine Lib.hid ?_
  have HM1 := Lib.hid (HM.out w1 v1 K1 h1)
  clear h1
  go_wp2_with (go_at_call 28; (with_reducible refine HM1.out.mono ?_); rintro e w2 ⟨v2, rfl, h2, K2⟩; refine Hid.out ?_)
  refine Lib.hid ?_
  go_wp2
  go_ret
  exact ⟨_, rfl, h2, K1.tr K2⟩

set_option maxRecDepth 20000 in
set_option maxHeartbeats 1000000 in
theorem shifted_m {w : World} {a : Value} {m q : Nat} (ha : M w a m) (hl : (toL m).length ≤ 549755813888) (hq : q ≤ 549755813888) (h0 : m ≠ 0) :
    Calls Tryd.prog 54 #[a, .int .i64 (q : Nat)] w fun e w' => ∃ v, e = .returned v ∧ M w' v (m * 4294967296 ^ q) ∧ New w.heap.size v ∧ Kp w w' := by
  obtain ⟨i0, hi, hz0, hz1, hz2⟩ := info_parts infoU32
  obtain ⟨ao, ac, rfl, a1, a2, a3, a4⟩ := ha
  have hl0 : 0 < (toL m).length := by
    rcases Nat.eq_zero_or_pos (toL m).length with h | h
    · exact absurd ((toL_nil_iff m).1 (List.length_eq_zero_iff.1 h)) h0
    · exact h
  have hv := val_toL m
  have A3 := Lib.hid a3
  have A4 := Lib.hid a4
  unfold maxLen at a2
  obtain ⟨X, hX⟩ : ∃ X, X = toL m := ⟨_, rfl⟩
  rw [← hX] at A3 A4 a1 hl hl0 hv ⊢
  have HV := Lib.hid hv
  have HX := Lib.hid hX
  have hne : ((X.length : Int) == 0) = false := beq_eq_false_iff_ne.2 (by omega)
  clear a3 a4 hX hv
  go_enter Tryd.func54, Tryd.ntmps54
  go_wp2_with (first
    | (at_make; refine wpList_make_full _ rfl _ _ 22 rfl w.heap.size 45 i0 (.int .u32 0) 1 undU32s hi hz0 hz1 _ _ _ _ q rfl rfl rfl rfl (by rw [hz2]; omega) (by unfold maxLen; omega) (Nat.le_refl _) ?_; intro w1 hown hg; have O1 := Lib.hid (owned_zeros hown); have K1 := (Below.refl w.heap.size w).grown hg (Nat.le_refl _) (by intro j hj; cases hj); have HSRC := Lib.hid ((A4.out.kp K1).news); clear hown hg)
    | (at_builtin; refine wpList_append_src _ rfl (.tmp 9) (.tmp 10) 22 rfl w.heap.size 45 i0 (.int .u32 0) 1 4 undU32s hi hz0 hz1 hz2 rfl (by decide) (.slice (some ⟨w.heap.size, 0, none⟩) q q) q (cellsOf (List.replicate q 0)) rfl O1.out ao X.length ac (cellsOf X) rfl (by simp [cellsOf]) HSRC.out (cellsOf_one _) (by unfold maxLen; omega) (by omega) (by have := K1.size; omega) ?_; intro v' w3 hown' hg3 _; refine Hid.out ?_))
  refine Lib.hid ?_
  have K3 : Kp w w3 := K1.grown hg3 (by have := K1.size; omega) (fun b hb => (O1.out.lt b hb).1)
  have HNW := Lib.hid (owns_new hown')
  have hr : M w3 v' (m * 4294967296 ^ q) := by
    rw [show cellsOf (List.replicate q 0) ++ cellsOf X = cellsOf (List.replicate q 0 ++ X) by simp [cellsOf]] at hown'
    have hLL : Limbs (List.replicate q 0 ++ X) := (Limbs.replicate q).append A3.out
    have h1 := Rd.owned hown' hLL
    have h2 := toL_val hLL
    rw [trimL_app (by rw [HX.out]; exact trimL_toL m) hl0, val_zeros_append, HV.out, Nat.mul_comm] at h2
    unfold M
    rw [h2]
    exact h1
  have HR := Lib.hid hr
  clear hr hown' hg3
  go_wp2
  go_ret
  exact ⟨_, rfl, HR.out, HNW.out, K3⟩

theorem shifted_zero {w : World} {a : Value} {m q : Nat} (ha : M w a m) (h0 : m = 0) :
    Calls Tryd.prog 54 #[a, .int .i64 (q : Nat)] w fun e w' => ∃ v, e = .returned v ∧ M w' v (m * 4294967296 ^ q) ∧ New w.heap.size v ∧ Kp w w' := by
  subst h0
  obtain ⟨ao, ac, rfl, a1, a2, a3, a4⟩ := ha
  rw [toL_zero, Nat.zero_mul]
  clear a1 a2 a3 a4
  go_enter Tryd.func54, Tryd.ntmps54
  go_wp2
  go_ret
  exact ⟨_, rfl, m_nil _, new_nil _ _ _, Below.refl _ _⟩

theorem shifted_any {w : World} {a : Value} {m q : Nat} (ha : M w a m) (hl : (toL m).length ≤ 549755813888) (hq : q ≤ 549755813888) :
    Calls Tryd.prog 54 #[a, .int .i64 (q : Nat)] w fun e w' => ∃ v, e = .returned v ∧ M w' v (m * 4294967296 ^ q) ∧ New w.heap.size v ∧ Kp w w' := by
  by_cases h0 : m = 0
  · exact shifted_zero ha h0
  · exact shifted_m ha hl hq h0
end Go.Proofs.YtijadodleiiomaaDoor
