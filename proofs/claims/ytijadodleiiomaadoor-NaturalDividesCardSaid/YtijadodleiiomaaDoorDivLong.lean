/-
  natural.divideLong: by walking its text.
-/
import Derived.Test.YtijadodleiiomaaDoorKnuthM
import Derived.Test.YtijadodleiiomaaDoorKnuth
import Derived.Test.YtijadodleiiomaaDoorReadsW
import Derived.Deep.DeepCutAuto
import Derived.Deep.RegionHeld3
import Derived.Deep.AppendLies
namespace Go.Proofs.YtijadodleiiomaaDoor
open Go.RowKit

theorem lz32 {x : Nat} (h : x < 4294967296) (h0 : x ≠ 0) : ∃ up : Nat, (32 - (Lib.bitLen x : Int)) = (up : Int) ∧ up < 32 ∧ 2147483648 ≤ x * 2 ^ up ∧ (x + 1) * 2 ^ up ≤ 4294967296 := by
  obtain ⟨h1, h2, h3, h4⟩ := bitLen_32 h h0
  refine ⟨32 - Lib.bitLen x, by omega, by omega, ?_, ?_⟩
  · have := Nat.mul_le_mul_right (2 ^ (32 - Lib.bitLen x)) h2
    rw [← Nat.pow_add, show Lib.bitLen x - 1 + (32 - Lib.bitLen x) = 31 by omega] at this
    exact this
  · have := Nat.mul_le_mul_right (2 ^ (32 - Lib.bitLen x)) (show x + 1 ≤ 2 ^ Lib.bitLen x from h3)
    rw [← Nat.pow_add, show Lib.bitLen x + (32 - Lib.bitLen x) = 32 by omega] at this
    exact this

/-- 'make' of a row of limbs, as an equation. -/
theorem run_limbs (n : Nat) (hn : n ≤ 1099511627776) (L : Int) (hL : L = (n : Int)) (W : World) :
    (Instr.makeSlice 22 (.int .i64 L) (.int .i64 L)).run Tryd.prog W = .ok (.slice (some ⟨W.heap.size, 0, none⟩) n n) (W.alloc (.cells (cellsOf (List.replicate n 0)).toArray 45)) := by
  obtain ⟨i0, hi, hz0, hz1, hz2⟩ := info_parts infoU32
  subst hL
  have hr := run_make (P := Tryd.prog) W 22 45 i0 (.int .u32 0) undU32s hi hz0 .i64 .i64 n n (by omega) (Int.le_refl _) (by rw [hz2]; omega) (by omega)
  simp only [Int.toNat_natCast] at hr
  have e : madeCells (Value.int .u32 0).cells n = (cellsOf (List.replicate n 0)).toArray := by
    apply Array.ext'
    rw [show (Value.int .u32 0).cells = #[Value.int .u32 0] from rfl, toList_madeCells_one]
    simp [cellsOf, limb]
  rw [hr, hz1, Nat.mul_one, e]

theorem Own.rowTake {w : World} {g : Nat} {P : List Nat} (h : Own w 45 g P) (hL : Limbs P) {base : Nat} (hb : base ≤ g) {k cap : Nat} (hk : k ≤ P.length) (hc : P.length ≤ cap) {n : Nat} (hv : val (P.take k) = n) (hm : cap ≤ maxLen) :
    Row w base (.slice (some ⟨g, 0, none⟩) (trimL (P.take k)).length cap) n := by
  subst hv
  have e := toL_val (hL.take k)
  have hl := length_trimL (P.take k)
  rw [List.length_take, Nat.min_eq_left hk] at hl
  refine ⟨g, P, cap, by rw [e], hb, h, hL, by rw [e]; omega, hc, hm, ?_⟩
  rw [e]
  have := trimL_take (P.take k)
  rwa [List.take_take, Nat.min_eq_left hl] at this

/-- The guess of a limb of the quotient of two lists. -/
theorem digit_guess {P0 V : List Nat} {h W q : Nat} (hP : Limbs P0) (hV : Limbs V) (hl : P0.length = V.length) (h2 : 2 ≤ V.length) (htop : 2147483648 ≤ V.getD (V.length - 1) 0)
    (hW : W = h * 4294967296 ^ V.length + val P0) (hq : q = W / val V) (hqB : q < 4294967296) : q ≤ guessN h P0 V ∧ guessN h P0 V ≤ q + 1 := by
  obtain ⟨v, hv, eV⟩ := val_two hV h2
  obtain ⟨l, hlt, eP⟩ := val_two hP (by omega)
  rw [hl] at hlt eP
  have hv0 := hV.getD (V.length - 2)
  unfold guessN
  have eK : (4294967296 : Nat) ^ V.length = 18446744073709551616 * 4294967296 ^ (V.length - 2) := by
    obtain ⟨k, hk⟩ : ∃ k, V.length = k + 2 := ⟨V.length - 2, by omega⟩
    rw [hk, show k + 2 - 2 = k by omega, Nat.pow_succ, Nat.pow_succ, Nat.mul_assoc, Nat.mul_comm]
  refine knuth_guess eV hv (l := l) ?_ hlt ?_ hq hqB rfl
  · rw [hW, eK, eP, ← Nat.mul_assoc, ← Nat.add_assoc, ← Nat.add_mul]
  · rw [Nat.mul_comm, Nat.mul_add_div (by omega), Nat.div_eq_of_lt hv0, Nat.add_zero]
    exact htop

theorem Own.only {w w' : World} {e : TypeId} {g g' : Nat} {xs : List Nat} (h : Own w e g xs) (ho : Only g' w w') (hne : g ≠ g') : Own w' e g xs := by
  unfold Own
  rw [ho.block g hne]
  exact h

theorem two_rows (w : World) (xs ys : List Nat) :
    Own ((w.alloc (.cells (cellsOf xs).toArray 45)).alloc (.cells (cellsOf ys).toArray 45)).drew 45 w.heap.size xs ∧
    Own ((w.alloc (.cells (cellsOf xs).toArray 45)).alloc (.cells (cellsOf ys).toArray 45)).drew 45 (w.heap.size + 1) ys ∧
    Kp w ((w.alloc (.cells (cellsOf xs).toArray 45)).alloc (.cells (cellsOf ys).toArray 45)).drew := by
  have e : (w.alloc (.cells (cellsOf xs).toArray 45)).heap.size = w.heap.size + 1 := by simp
  have h1 := (Own.alloc_new w 45 xs).alloc (.cells (cellsOf ys).toArray 45)
  have h2 := Own.alloc_new (w.alloc (.cells (cellsOf xs).toArray 45)) 45 ys
  rw [e] at h2
  exact ⟨h1, h2, ((Kp.alloc w _).tr (Kp.alloc _ _)).drew⟩

set_option maxRecDepth 20000 in
set_option maxHeartbeats 2000000 in
theorem divideLong_any (a b : Value) (X Y : List Nat) (w : World) (ha : Rd w a X) (hb : Rd w b Y) (hl : X.length ≤ 549755813888) (h2 : 2 ≤ Y.length) (hYX : Y.length ≤ X.length) (htop : Y.getD (Y.length - 1) 0 ≠ 0) :
    Calls Tryd.prog 50 #[a, b] w fun e w' => ∃ q r, e = .returned (.tuple #[q, r]) ∧ M w' q (val X / val Y) ∧ Row w' w.heap.size r (val X % val Y) ∧ Kp w w' := by
  obtain ⟨i0, hi, hz0, hz1, hz2⟩ := info_parts infoU32
  obtain ⟨ao, ac, rfl, a1, a2, a3, a4⟩ := ha
  obtain ⟨bo, bc, rfl, b1, b2, b3, b4⟩ := hb
  have a2' := a2
  have b2' := b2
  unfold maxLen at a2 b2
  obtain ⟨bb, bof, t, rfl, hct, ht, HT⟩ := b4.at b3 (Y.length - 1) (by omega)
  rw [← HT.out] at htop
  obtain ⟨up, hup, hup32, hs1, hs2⟩ := lz32 ht htop
  have hlz : ∀ W : World, Calls Tryd.prog 70 #[.int .u32 (t : Nat)] W fun e w' => e = .returned (.int .i64 (up : Nat)) ∧ w' = W := by
    intro W
    refine (Tryd.bits_LeadingZeros32 (t : Int) W (by omega) (by omega)).mono ?_
    rintro e w1 ⟨rfl, rfl⟩
    exact ⟨ret_int hup, rfl⟩
  have HLZ := Lib.hid hlz
  rw [HT.out] at hs1 hs2
  have HTS := Lib.hid (top_shift b3 (by omega) hs1 hs2 rfl)
  obtain ⟨p, hp⟩ : ∃ p, p = 2 ^ up := ⟨_, rfl⟩
  have hp0 : 0 < p := by rw [hp]; exact Nat.pow_pos (by omega)
  have hpb : p ≤ 2147483648 := by rw [hp]; exact Nat.pow_le_pow_right (by omega) (show up ≤ 31 by omega)
  rw [← hp] at HTS
  have HP := Lib.hid hp
  have HP0 := Lib.hid hp0
  have HPB := Lib.hid hpb
  have A3 := Lib.hid a3
  have A4 := Lib.hid a4
  have B3 := Lib.hid b3
  have B4 := Lib.hid b4
  obtain ⟨n, hn⟩ : ∃ n, n = Y.length := ⟨_, rfl⟩
  obtain ⟨l, hle⟩ : ∃ l, l = X.length := ⟨_, rfl⟩
  rw [← hn] at b1 hct h2 HTS
  rw [← hle] at a1 hl
  rw [← hn, ← hle] at hYX
  rw [← hn, ← hle]
  have HN := Lib.hid hn
  have HLX := Lib.hid hle
  have hmk1 := run_limbs (n + 1) (by omega) ((n : Int) + 1) (by omega)
  have hwn : IntKind.i64.wrap ((n : Int) + 1) = (n : Int) + 1 := by rw [IntKind.wrap_i64]; omega
  have hwl : IntKind.i64.wrap ((l : Int) + 1) = (l : Int) + 1 := by rw [IntKind.wrap_i64]; omega
  have hmk2 := run_limbs (l + 1) (by omega) ((l : Int) + 1) (by omega)
  clear hlz hs1 hs2 hup hp hp0 hpb a3 a4 b3 b4 hn hle htop
  go_enter Tryd.func50, Tryd.ntmps50
  go_upto_region 3 with (go_at_call 70; refine (HLZ.out _).mono ?_; rintro e w1 ⟨rfl, rfl⟩)
  go_cut [8, 9] (fun s8 s9 wx => ∃ gd gr : Nat, s8 = .slice (some ⟨gd, 0, none⟩) (n + 1) (n + 1) ∧ s9 = .slice (some ⟨gr, 0, none⟩) (l + 1) (l + 1) ∧ gd ≠ gr ∧ w1.heap.size ≤ gd ∧ w1.heap.size ≤ gr ∧
    Own wx 45 gd (List.replicate (n + 1) 0) ∧ Own wx 45 gr (List.replicate (l + 1) 0) ∧ Kp w1 wx)
  case first =>
    go_region_with (fail)
    · go_wp2_with fail
      go_meet
      have h := two_rows w1 (List.replicate (n + 1) 0) (List.replicate (l + 1) 0)
      exact ⟨w1.heap.size, w1.heap.size + 1, rfl, rfl, by omega, Nat.le_refl _, by omega, h.1, h.2.1, h.2.2⟩
    · go_wp2_with fail
      go_meet
      have h := two_rows w1 (List.replicate (l + 1) 0) (List.replicate (n + 1) 0)
      exact ⟨w1.heap.size + 1, w1.heap.size, rfl, rfl, by omega, by omega, Nat.le_refl _, h.2.1, h.1, h.2.2⟩
  case rest =>
    obtain ⟨gd, gr, rfl, rfl, hne, hgd, hgr, hOd, hOr, K1⟩ := hcut
    obtain ⟨w2, rfl⟩ : ∃ w, w = wc := ⟨_, rfl⟩
    have HOd := Lib.hid hOd
    have HOr := Lib.hid hOr
    have HP1 := Lib.hid (fun C => raise_any gd 0 (n + 1) C (some ⟨bb, bof, none⟩) bc up (List.replicate (n + 1) 0) Y w2 hOd (Limbs.replicate _) B3.out (fun w' ho => B4.out.kp (ho.kp K1 hgd)) (by rw [← HN.out]; exact Nat.le_refl _) (by simp) (by simp; omega) (by rw [← HN.out]; exact b1) b2' hup32)
    rw [← HN.out] at HP1
    clear hOd hOr
    go_wp2_with (go_at_call 71; refine (HP1.out _).mono ?_; rintro e w3 ⟨rfl, D, hD, hDL, hDl, _, _, hDv, hon⟩; refine Hid.out ?_)
    refine Lib.hid ?_
    have hDl2 : D.length = n + 1 := by rw [hDl, List.length_replicate]
    have hDv2 : val D = val Y * p := by
      rw [List.drop_zero, List.take_of_length_le (by omega)] at hDv
      rw [hDv, HP.out]
    have K2 : Kp w1 w3 := hon.kp K1 hgd
    have HOr3 := Lib.hid (HOr.out.only hon hne.symm)
    have HD := Lib.hid hD
    have HDL := Lib.hid hDL
    have HDl := Lib.hid hDl2
    have HDv := Lib.hid hDv2
    clear hD hDL hDl hDv hDl2 hDv2 hon
    have HP2 := Lib.hid (fun C => raise_any gr 0 (l + 1) C ao ac up (List.replicate (l + 1) 0) X w3 HOr3.out (Limbs.replicate _) A3.out (fun w' ho => A4.out.kp (ho.kp K2 hgr)) (by rw [← HLX.out]; exact Nat.le_refl _) (by simp) (by simp; omega) (by rw [← HLX.out]; exact a1) a2' hup32)
    rw [← HLX.out] at HP2
    go_wp2_with (go_at_call 71; refine (HP2.out _).mono ?_; rintro e w4 ⟨rfl, R, hR, hRL, hRl, _, _, hRv, hon⟩; refine Hid.out ?_)
    refine Lib.hid ?_
    have hRl2 : R.length = l + 1 := by rw [hRl, List.length_replicate]
    have hRv2 : val R = val X * p := by
      rw [List.drop_zero, List.take_of_length_le (by omega)] at hRv
      rw [hRv, HP.out]
    have K3 : Kp w1 w4 := hon.kp K2 hgr
    have HD4 := Lib.hid (HD.out.only hon hne)
    have HR := Lib.hid hR
    have HRL := Lib.hid hRL
    have HRl := Lib.hid hRl2
    have HRv := Lib.hid hRv2
    clear hR hRL hRl hRv hRl2 hRv2 hon
    -- the divisor
    obtain ⟨V, hV⟩ : ∃ V, V = D.take n := ⟨_, rfl⟩
    have hVl : V.length = n := by rw [hV, List.length_take, HDl.out]; omega
    have hVL : Limbs V := by rw [hV]; exact HDL.out.take n
    have hVv : val V = val Y * p := by
      rw [hV, take_full (by rw [HDl.out]; omega) (by rw [HDv.out]; exact HTS.out.2), HDv.out]
    have hVt : 2147483648 ≤ V.getD (V.length - 1) 0 := top_ge hVL (by omega) (by rw [hVl, hVv]; exact HTS.out.1)
    have HVd := Lib.hid hV
    have HVl := Lib.hid hVl
    have HVL := Lib.hid hVL
    have HVv := Lib.hid hVv
    have HVt := Lib.hid hVt
    clear hV hVl hVL hVv hVt
    obtain ⟨m, hm⟩ : ∃ m, m = l - n + 1 := ⟨_, rfl⟩
    have hmk3 := run_limbs m (by omega) (((l - n : Nat) : Int) + 1) (by omega)
    have hmk4 := run_limbs m (by omega) ((l : Int) - (n : Int) + 1) (by omega)
    have HF := Lib.hid (first_rest (R := R) (n := n) (V := val V) A3.out HRL.out (by rw [HRl.out, HLX.out]) (by omega) (by rw [← HLX.out]; exact hYX) HRv.out HPB.out HP0.out (by rw [HVv.out]; exact HTS.out.1))
    rw [← HLX.out, ← hm] at HF
    have HM := Lib.hid hm
    have hm1 : 1 ≤ m := by omega
    have hml : m + n = l + 1 := by omega
    have hgqd : gd < w4.heap.size := HD4.out.lt
    have hgqr : gr < w4.heap.size := HR.out.lt
    have hgqw : w1.heap.size ≤ w4.heap.size := K3.size
    have HQ0 := Lib.hid (Own.alloc_new w4 45 (List.replicate m 0))
    have HD5 := Lib.hid (HD4.out.alloc (.cells (cellsOf (List.replicate m 0)).toArray 45))
    have HR5 := Lib.hid (HR.out.alloc (.cells (cellsOf (List.replicate m 0)).toArray 45))
    have K5 : Kp w1 (w4.alloc (.cells (cellsOf (List.replicate m 0)).toArray 45)) := K3.tr (Kp.alloc _ _)
    clear hm HD4 HR
    go_wp2
    obtain ⟨gq, hgq⟩ : ∃ gq, gq = w4.heap.size := ⟨_, rfl⟩
    obtain ⟨w5, hw5⟩ : ∃ w5, w5 = w4.alloc (.cells (cellsOf (List.replicate m 0)).toArray 45) := ⟨_, rfl⟩
    rw [← hgq] at hgqd hgqr hgqw HQ0 ⊢
    rw [← hw5] at HQ0 HD5 HR5 K5 ⊢
    clear hgq hw5
    go_loopw [10] (fun i wr => ∃ (j : Nat) (Q R' : List Nat), j ≤ m ∧ i = .int .i64 ((j : Int) - 1) ∧ Own wr 45 gq Q ∧ Q.length = m ∧ Limbs Q ∧ Own wr 45 gr R' ∧ R'.length = l + 1 ∧ Limbs R' ∧ Own wr 45 gd D ∧ R'.take j = R.take j ∧
      val (R.drop j) = val (Q.drop j) * val V + val ((R'.drop j).take n) ∧ val ((R'.drop j).take n) < val V ∧ Kp w1 wr) (fun i _ => (intOf i + 1).toNat)
    case atStart => exact ⟨m, List.replicate m 0, R, Nat.le_refl _, rfl, HQ0.out, by simp, Limbs.replicate _, HR5.out, HRl.out, HRL.out, HD5.out, rfl, by have h := HF.out.1; rw [Nat.zero_mul] at h; simpa [val] using h, HF.out.2, K5⟩
    case round =>
      obtain ⟨j, Q, R', hj, rfl, hQ, hQl, hQL, hR', hRl', hRL', hD', hRt, hRv', hRb, K6⟩ := hrel
      have HQ := Lib.hid hQ
      have HQl := Lib.hid hQl
      have HQL := Lib.hid hQL
      have HR' := Lib.hid hR'
      have HRl' := Lib.hid hRl'
      have HRL' := Lib.hid hRL'
      have HD' := Lib.hid hD'
      have HRt := Lib.hid hRt
      have HRv' := Lib.hid hRv'
      have HRb := Lib.hid hRb
      clear hQ hQl hQL hR' hRl' hRL' hD' hRt hRv' hRb
      by_cases hj0 : 0 < j
      · obtain ⟨i, rfl⟩ : ∃ i, j = i + 1 := ⟨j - 1, by omega⟩
        obtain ⟨h, hch, hh, HH⟩ := HR'.out.at HRL'.out (i + n) (by rw [HRl'.out]; omega)
        obtain ⟨q0, hcq, _, _⟩ := HQ.out.at HQL.out i (by rw [HQl.out]; omega)
        have hfq := HQ.out.frozen i
        go_wp2
        go_quiet (fail)
        have KN : Kp wr (wr.drewN nq) := Kp.drewN (Below.refl _ _) _
        have HVs := Lib.hid (show Sl (wr.drewN nq) (some ⟨gd, 0, none⟩) V by rw [HVd.out]; exact ((HD'.out.kp KN).sl.take n))
        have HPs := Lib.hid (show Sl (wr.drewN nq) (some ⟨gr, i, none⟩) ((R'.drop i).take n) by have := ((HR'.out.kp KN).sl.drop i).take n; rwa [Nat.zero_add] at this)
        have HPl := Lib.hid (show ((R'.drop i).take n).length = n by rw [List.length_take, List.length_drop, HRl'.out]; omega)
        have HG := Lib.hid (fun C D' => guess_any C D' h (some ⟨gr, i, none⟩) (some ⟨gd, 0, none⟩) ((R'.drop i).take n) V (wr.drewN nq) HPs.out ((HRL'.out.drop i).take n) HVs.out HVL.out (by rw [HPl.out, HVl.out]) (by rw [HVl.out]; exact h2) (by rw [HVl.out]; omega) HVt.out hh)
        rw [HVl.out] at HG
        obtain ⟨g, hg⟩ : ∃ g, g = guessN h ((R'.drop i).take n) V := ⟨_, rfl⟩
        rw [← hg] at HG
        have HGG := Lib.hid hg
        have hgb : g < 4294967296 := by rw [hg]; exact guessN_lt _ _ _
        clear hg
        go_wp2_with (go_at_call 72; refine (HG.out _ _).mono ?_; rintro e wg ⟨rfl, KG⟩; refine Hid.out ?_)
        refine Lib.hid ?_
        have KG2 : Kp wr wg := KN.tr KG
        have HQg := Lib.hid (HQ.out.kp KG2)
        have HRg := Lib.hid (HR'.out.kp KG2)
        have HDg := Lib.hid (HD'.out.kp KG2)
        have hcq2 := (KG2.cell (p := ⟨gq, i, none⟩) HQ.out.lt).trans hcq
        have hfq2 := HQg.out.frozen i
        have HQs := Lib.hid (HQg.out.set i g)
        have HOs : Only gq wg (wg.setCell ⟨gq, i, none⟩ (.int .u32 (g : Nat))) := (Only.refl gq wg).setCell i _
        have HRs := Lib.hid (HRg.out.only HOs (by omega))
        have HDs := Lib.hid (HDg.out.only HOs (by omega))
        have KS : Kp w1 (wg.setCell ⟨gq, i, none⟩ (.int .u32 (g : Nat))) := HOs.kp (K6.tr KG2) hgqw
        have HSB := Lib.hid (fun C D' => subtract_any gr i C D' h g (some ⟨gd, 0, none⟩) R' V (wg.setCell ⟨gq, i, none⟩ (.int .u32 (g : Nat))) HRs.out HRL'.out HVL.out
          (fun w' ho => by rw [HVd.out]; exact ((HDs.out.only ho hne).sl.take n)) (by rw [HVl.out, HRl'.out]; omega) (by rw [HRl'.out]; omega))
        rw [HVl.out] at HSB
        have HKS := Lib.hid KS
        clear KS HOs
        go_wp2_with (go_at_call 73; refine (HSB.out _ _ ?_ ?_ hh hgb).mono ?_; (omega); (unfold maxLen; omega); rintro e w6 ⟨P, c, rfl, hP, hPL, hPl, hPt, hPd, hPv, hon⟩; refine Hid.out ?_)
        refine Lib.hid ?_
        -- the limb
        obtain ⟨W, hW⟩ : ∃ W, W = R'.getD (i + n) 0 * 4294967296 ^ n + val ((R'.drop i).take n) := ⟨_, rfl⟩
        have hqB : W / val V < 4294967296 := digit_bound HRL'.out (by rw [HRl'.out]; omega) HRb.out hW
        have hgg := digit_guess (h := h) ((HRL'.out.drop i).take n) HVL.out (by rw [HPl.out, HVl.out]) (by rw [HVl.out]; exact h2) HVt.out (by rw [HVl.out, HH.out]; exact hW) rfl hqB
        rw [← HGG.out] at hgg
        have hVn : val V < 4294967296 ^ n := by have := val_lt HVL.out; rwa [HVl.out] at this
        have hP1n : val ((P.drop i).take n) < 4294967296 ^ n := by
          have := val_lt ((hPL.drop i).take n)
          rwa [List.length_take, List.length_drop, hPl, HRl'.out, Nat.min_eq_left (by omega)] at this
        have hks := knuth_sub (h := h) (by rw [HH.out]; exact hW) hP1n hVn (Nat.lt_of_le_of_lt (Nat.zero_le _) HRb.out) rfl hgg.1 hgg.2 hPv
        have HW := Lib.hid hW
        have HKS2 := Lib.hid hks
        have HPt := Lib.hid (hPt.trans (take_less HRt.out (show i ≤ i + 1 by omega)))
        have HP6 := Lib.hid hP
        have HPL := Lib.hid hPL
        have HPL2 := Lib.hid (hPl.trans HRl'.out)
        have HQ6 := Lib.hid (HQs.out.only hon (by omega))
        have HD6 := Lib.hid (HDs.out.only hon hne)
        have K7 : Kp w1 w6 := hon.kp HKS.out hgr
        have HQB := Lib.hid hqB
        clear hW hgg hPv hVn hP1n hks hP hPL hPl hPt hPd hon hqB
        by_cases hc : h < c
        · have HC := Lib.hid (HKS2.out.2 hc)
          rw [decide_eq_true hc]
          have HAB := Lib.hid (fun C D' => addBack_any gr i C D' (some ⟨gd, 0, none⟩) P V w6 HP6.out HPL.out HVL.out
            (fun w' ho => by rw [HVd.out]; exact ((HD6.out.only ho hne).sl.take n)) (by rw [HVl.out, HPL2.out]; omega) (by rw [HPL2.out]; omega))
          rw [HVl.out] at HAB
          clear hc
          go_wp2_with (go_at_call 74; refine (HAB.out _ _ ?_ ?_).mono ?_; (omega); (unfold maxLen; omega); rintro e w7 ⟨P2, c2, rfl, hP, hPL, hPl, hPt, hPd, hPv, hon⟩; refine Hid.out ?_)
          refine Lib.hid ?_
          have hP2n : val ((P2.drop i).take n) < 4294967296 ^ n := by
            have := val_lt ((hPL.drop i).take n)
            rwa [List.length_take, List.length_drop, hPl, HPL2.out, Nat.min_eq_left (by omega)] at this
          have hrem : val ((P2.drop i).take n) = W % val V := HC.out.2 _ c2 hP2n hPv
          have HREM := Lib.hid hrem
          have HP7 := Lib.hid hP
          have HPL7 := Lib.hid hPL
          have HPl7 := Lib.hid (hPl.trans HPL2.out)
          have HPt7 := Lib.hid (hPt.trans HPt.out)
          have HQ7 := Lib.hid (HQ6.out.only hon (by omega))
          have HD7 := Lib.hid (HD6.out.only hon hne)
          have K8 : Kp w1 w7 := hon.kp K7 hgr
          have hc7 : w7.cell? ⟨gq, i, none⟩ = some (.int .u32 (g : Nat)) := by
            have := HQ7.out.cell i (by rw [List.length_set, HQl.out]; omega)
            rwa [show (Q.set i g).getD i 0 = g by simp [List.getD, show i < Q.length by rw [HQl.out]; omega]] at this
          have hf7 := HQ7.out.frozen i
          have hg1 : 0 < g := by rw [HC.out.1]; exact Nat.succ_pos _
          have HGI := Lib.hid (show ((g : Int) - 1) = ((g - 1 : Nat) : Int) by omega)
          have HG1 := Lib.hid (show g - 1 = W / val V by rw [HC.out.1]; exact Nat.add_sub_cancel _ _)
          clear hP hPL hPl hPt hPd hPv hon hP2n hrem
          go_wp2
          rw [HGI.out]
          go_roundw
          case rel => exact ⟨i, (Q.set i g).set i (g - 1), P2, by omega, by go_num, HQ7.out.set i _, by rw [List.length_set, List.length_set]; exact HQl.out, (HQL.out.set _ _ hgb).set _ _ (by omega), (HP7.out.only ((Only.refl gq w7).setCell i _) (by omega)), HPl7.out, HPL7.out, HD7.out.only ((Only.refl gq w7).setCell i _) (by omega), HPt7.out, by rw [List.set_set, HG1.out]; exact digit_down (by rw [HQl.out]; omega) (by rw [HRl'.out]; omega) (by rw [HRl'.out, HRl.out]) HRt.out HRv'.out HW.out HREM.out, by rw [HREM.out]; exact Nat.mod_lt _ (Nat.lt_of_le_of_lt (Nat.zero_le _) HRb.out), ((Only.refl gq w7).setCell i _).kp K8 hgqw⟩
          case measure => simp [intOf]
        · have HC := Lib.hid (HKS2.out.1 hc)
          rw [decide_eq_false hc]
          clear hc
          go_wp2
          go_roundw
          case rel => exact ⟨i, Q.set i g, P, by omega, by go_num, HQ6.out, by rw [List.length_set]; exact HQl.out, HQL.out.set _ _ hgb, HP6.out, HPL2.out, HPL.out, HD6.out, HPt.out, by rw [HC.out.1]; exact digit_down (by rw [HQl.out]; omega) (by rw [HRl'.out]; omega) (by rw [HRl'.out, HRl.out]) HRt.out HRv'.out HW.out HC.out.2, by rw [HC.out.2]; exact Nat.mod_lt _ (Nat.lt_of_le_of_lt (Nat.zero_le _) HRb.out), K7⟩
          case measure => simp [intOf]
      · obtain rfl : j = 0 := by omega
        have hRv0 := HRv'.out
        rw [List.drop_zero, List.drop_zero, List.drop_zero] at hRv0
        have hRb0 := HRb.out
        rw [List.drop_zero] at hRb0
        have HLO := Lib.hid (fun C => lower_any gr n C up R' wr HR'.out HRL'.out (by rw [HRl'.out]; omega) (by rw [HRl'.out]; omega) hup32)
        have HRv0 := Lib.hid hRv0
        have HRb0 := Lib.hid hRb0
        clear hRv0 hRb0
        go_wp2_with (go_at_call 75; refine (HLO.out _).mono ?_; rintro e w6 ⟨rfl, P, hP, hPL, hPl, hPd, hPv, hon⟩; refine Hid.out ?_)
        refine Lib.hid ?_
        have hfin := long_fin (r := val (P.take n)) HP0.out HRv.out (by rw [← HVv.out]; exact HRv0.out) (by rw [← HVv.out]; exact HRb0.out) (by rw [HP.out]; exact hPv)
        have HQ6 := Lib.hid (HQ.out.only hon (by omega))
        have K7 : Kp w1 w6 := hon.kp K6 hgr
        have HFIN := Lib.hid hfin
        have HP6 := Lib.hid hP
        have HPL := Lib.hid hPL
        have HPl := Lib.hid (hPl.trans HRl'.out)
        have HTQ := Lib.hid (fun w' (ho : Own w' 45 gq Q) => ntrim_of (some ⟨gq, 0, none⟩) m m Q w' HQl.out (Nat.le_refl _) (by unfold maxLen; omega) ho.sl)
        have HTR := Lib.hid (fun w' (ho : Own w' 45 gr P) => ntrim_of (some ⟨gr, 0, none⟩) n (l + 1) (P.take n) w' (by rw [List.length_take, HPl.out]; omega) (by omega) (by unfold maxLen; omega) (ho.sl.take n))
        clear hP hPL hPl hPd hPv hon hfin
        go_wp2_with (go_at_call 40; first
          | ((with_reducible refine (HTQ.out _ HQ6.out).mono ?_); rintro e w8 ⟨rfl, rfl⟩)
          | ((with_reducible refine (HTR.out _ HP6.out).mono ?_); rintro e w8 ⟨rfl, rfl⟩))
        go_ret2
        exact ⟨_, _, rfl, HQ6.out.mag HQL.out _ m HFIN.out.1 (by rw [HQl.out]; exact Nat.le_refl _) (by unfold maxLen; omega), HP6.out.rowTake HPL.out hgr (by rw [HPl.out]; omega) (by rw [HPl.out]; exact Nat.le_refl _) HFIN.out.2 (by unfold maxLen; omega), K7⟩
end Go.Proofs.YtijadodleiiomaaDoor
