/-
  brepkernelref01.Div: by walking its text.
-/
import Derived.Test.YtijadodleiiomaaDoorRSmall
import Derived.Test.YtijadodleiiomaaDoorGcd
namespace Go.Proofs.YtijadodleiiomaaDoor
open Go.RowKit

theorem toL_limb {x : Nat} (hx : x < 4294967296) (h0 : x ≠ 0) : toL x = [x] := by
  rw [toL_pos x h0, Nat.mod_eq_of_lt hx, Nat.div_eq_of_lt hx, toL_zero]

theorem m_one {w : World} {b off c x : Nat} (hc : w.cell? ⟨b, off, none⟩ = some (.int .u32 (x : Nat))) (hx : x < 4294967296) (h0 : x ≠ 0) (h1 : 1 ≤ c) (hm : c ≤ maxLen) : M w (.slice (some ⟨b, off, none⟩) 1 c) x := by
  unfold M
  rw [toL_limb hx h0]
  refine ⟨some ⟨b, off, none⟩, c, rfl, h1, hm, Limbs.cons hx Limbs.nil, fun _ => ⟨b, off, rfl, fun i hi => ?_⟩⟩
  have : i = 0 := by simpa using hi
  subst this
  simpa using hc

theorem up_m {w : World} {a : Value} {m : Nat} (ha : M w a m) (hl : (toL m).length ≤ 549755813888) (n : Nat) (hn : n ≤ 1099511627776) :
    Calls Tryd.prog 53 #[a, .int .i64 (n : Nat)] w fun e w' => ∃ v', e = .returned v' ∧ M w' v' (m * 2 ^ n) ∧ Kp w w' := by
  have h := up_core a _ n w ha hl hn
  rwa [val_toL] at h

theorem down_m {w : World} {a : Value} {m : Nat} (ha : M w a m) (hl : (toL m).length ≤ 549755813888) (n : Nat) (hn : n ≤ 35184372088832) :
    Calls Tryd.prog 56 #[a, .int .i64 (n : Nat)] w fun e w' => ∃ v', e = .returned v' ∧ M w' v' (m / 2 ^ n) ∧ Kp w w' := by
  have h := down_core a _ n w ha hl hn
  rwa [val_toL] at h

theorem rtrim_m {w : World} {a : Value} {m : Nat} (ha : M w a m) (hl : (toL m).length ≤ 1099511627776) :
    Calls Tryd.prog 39 #[a] w fun e w' => ∃ v', e = .returned v' ∧ M w' v' m ∧ Kp w w' := by
  have := trim_any a _ w ha hl
  rwa [trimL_toL] at this

theorem cmpv_ge {m n : Nat} (h : n ≤ m) : decide (cmpv m n < 0) = false := by
  apply decide_eq_false
  unfold cmpv
  rw [if_neg (by omega)]
  split <;> omega

theorem cmpv_pos {m n : Nat} : (0 < cmpv m n) ↔ n < m := by
  unfold cmpv
  split
  · omega
  · split <;> omega

theorem bits_limb {x : Nat} (hx : x < 4294967296) (h0 : x ≠ 0) : bitsN x ≤ 32 := by
  rw [bitsN_toL x (by rw [toL_limb hx h0]; simp), toL_limb hx h0]
  have := bitLen_le32 hx
  simpa using this

theorem orsum {r x : Nat} (hr : r < 4294967296) (hx : x < 4294967296) : bits .or .u64 ((r : Int) * 4294967296) (x : Int) = ((r * 4294967296 + x : Nat) : Int) := by
  have h1 := bits_or_u64_nat (r * 4294967296) x (by omega) (by omega)
  have h2 := or_low (c := x) (x := r) (n := 32) (by omega)
  rw [Nat.or_comm] at h2
  rw [Int.natCast_mul] at h1
  rw [show (4294967296 : Int) = ((4294967296 : Nat) : Int) from rfl, h1, show (4294967296 : Nat) = 2 ^ 32 from rfl, h2, Nat.add_comm]

/-- The first guess of the loop is not too great, and the loop has an end. -/
theorem start_less {A' B' : Nat} (hB : B' ≠ 0) (hn : (toL B').length ≤ (toL A').length) : A' < B' * 4294967296 ^ ((toL A').length - (toL B').length + 1) := by
  have h1 := toL_lt A'
  have h2 := toL_last B' hB
  have h3 := Nat.mul_le_mul_right (4294967296 ^ ((toL A').length - (toL B').length + 1)) h2
  rw [← Nat.pow_add] at h3
  have h0 : 0 < (toL B').length := by
    rcases Nat.eq_zero_or_pos (toL B').length with h | h
    · exact absurd ((toL_nil_iff B').1 (List.length_eq_zero_iff.1 h)) hB
    · exact h
  rw [show (toL B').length - 1 + ((toL A').length - (toL B').length + 1) = (toL A').length by omega] at h3
  omega

set_option maxRecDepth 20000 in
set_option maxHeartbeats 2000000 in
theorem rdiv_long {w : World} {a b : Value} {A B : Nat} (ha : M w a A) (hb : M w b B) (hlA : (toL A).length ≤ 1073741824) (h2 : 2 ≤ (toL B).length) (h3 : 2 < (toL A).length) (hBA : B ≤ A) :
    Calls Tryd.prog 30 #[a, b] w fun e w' => ∃ q r, e = .returned (.tuple #[q, r, .int .i64 0]) ∧ M w' q (A / B) ∧ M w' r (A % B) ∧ Kp w w' := by
  obtain ⟨i0, hi, hz0, hz1, hz2⟩ := info_parts infoU32
  have hlB := Nat.le_trans (length_mono B A hBA) hlA
  have HC := Lib.hid (rcmp_any a b A B w ha hb)
  have hcv := cmpv_ge hBA
  obtain ⟨cv, hcv0⟩ : ∃ cv, cv = cmpv A B := ⟨_, rfl⟩
  rw [← hcv0] at HC hcv
  have HSA := Lib.hid (fun w' (k : Kp w w') => rsmall_no (ha.kp k) h3)
  have hB0 : 0 < B := by
    rcases Nat.eq_zero_or_pos B with h | h
    · rw [h, toL_zero] at h2; simp at h2
    · exact h
  -- the highest limb
  have htop := trim_top (trimL_toL B) (by omega)
  have mA := Lib.hid ha
  have mB := Lib.hid hb
  obtain ⟨ao, ac, rfl, a1, a2, a3, a4⟩ := ha
  obtain ⟨bo, bc, rfl, b1, b2, b3, b4⟩ := hb
  obtain ⟨bb, boff, x, rfl, hcx, hx, HX⟩ := b4.at b3 ((toL B).length - 1) (by omega)
  rw [← HX.out] at htop
  obtain ⟨la, hla⟩ : ∃ l, l = (toL A).length := ⟨_, rfl⟩
  obtain ⟨lb, hlb⟩ : ∃ l, l = (toL B).length := ⟨_, rfl⟩
  unfold maxLen at a2 b2
  rw [← hla] at a1 h3 HC HSA mA hlA ⊢
  rw [← hlb] at b1 h2 HC mB hlB hcx ⊢
  have MX : M w (.slice (some ⟨bb, boff + (lb - 1), none⟩) (lb - (lb - 1)) (bc - (lb - 1))) x := by
    rw [show lb - (lb - 1) = 1 by omega]
    exact m_one hcx hx htop (by omega) (by unfold maxLen; omega)
  have hbits := bits_limb hx htop
  have HBI := Lib.hid (fun w' (k : Kp w w') => rbits_any _ x w' (MX.kp k) (by rw [toL_limb hx htop]; simp))
  obtain ⟨bx, hbx⟩ : ∃ n, n = bitsN x := ⟨_, rfl⟩
  rw [← hbx] at HBI hbits
  obtain ⟨s, hs⟩ : ∃ s, s = 32 - bx := ⟨_, rfl⟩
  have hsi : (32 : Int) - (bx : Int) = (s : Int) := by omega
  have hs32 : s ≤ 32 := by omega
  have HUB := Lib.hid (fun w' (k : Kp w w') => up_m (mB.out.kp k) (by rw [← hlb]; omega) s (by omega))
  have HUA := Lib.hid (fun w' (k : Kp w w') => up_m (mA.out.kp k) (by rw [← hla]; omega) s (by omega))
  have hp2 : 0 < (2 : Nat) ^ s := Nat.pow_pos (by omega)
  have hs2 : Sz 2 (2 ^ s) := by
    apply length_toL_le
    have := Nat.pow_le_pow_right (show 0 < 2 by omega) hs32
    omega
  have hBs : B ≤ B * 2 ^ s := Nat.le_mul_of_pos_right _ hp2
  have hAB : B * 2 ^ s ≤ A * 2 ^ s := Nat.mul_le_mul_right _ hBA
  have hlR : (toL (A * 2 ^ s)).length ≤ la + 2 := by rw [hla]; exact Sz.mul (Nat.le_refl _) hs2
  have HEND := Lib.hid (fun R V => @digits_end A B s R V hB0)
  obtain ⟨Q0, hQ0⟩ : ∃ q, q = A / B := ⟨_, rfl⟩
  obtain ⟨R1, hR1⟩ : ∃ q, q = A % B := ⟨_, rfl⟩
  rw [← hQ0, ← hR1] at HEND ⊢
  obtain ⟨B', hB'⟩ : ∃ q, q = B * 2 ^ s := ⟨_, rfl⟩
  obtain ⟨A', hA'⟩ : ∃ q, q = A * 2 ^ s := ⟨_, rfl⟩
  rw [← hB'] at HUB hBs hAB HEND
  rw [← hA'] at HUA hAB hlR HEND
  have hn2 : lb ≤ (toL B').length := by rw [hlb]; exact length_mono _ _ hBs
  have hnl := length_mono _ _ hAB
  have HST := Lib.hid (start_less (A' := A') (B' := B') (by omega) hnl)
  have hB'0 : 0 < B' := by omega
  have hnl2 : (toL B').length ≤ (toL A').length := hnl
  -- the highest limb of the raised divisor
  have hvt := trim_top (trimL_toL B') (by omega)
  have hvd := top_limb B'
  obtain ⟨lr, hlr⟩ : ∃ l, l = (toL A').length := ⟨_, rfl⟩
  obtain ⟨n, hn⟩ : ∃ l, l = (toL B').length := ⟨_, rfl⟩
  rw [← hlr, ← hn] at HST hnl2
  rw [← hlr] at hlR
  rw [← hn] at hn2 hvt hvd
  have HLR := Lib.hid hlr
  have HLN := Lib.hid hn
  obtain ⟨cnt, hcnt⟩ : ∃ l, l = lr - n + 1 := ⟨_, rfl⟩
  rw [← hcnt] at HST
  clear hnl hla hlb hcv0 hs2 hBs hAB hBA hQ0 hR1 hB' hA' hbx hs hp2 a3 a4 b3 b4 HX hcx MX hlr hn mA mB hB0 htop
  go_enter Tryd.func30, Tryd.ntmps30
  go_wp2_with (go_at_call 17; (with_reducible refine HC.out.mono ?_); rintro e w1 ⟨rfl, K1⟩; refine Hid.out ?_)
  refine Lib.hid ?_
  have HS1 := Lib.hid (HSA.out w1 K1)
  go_wp2_with (go_at_call 51; (with_reducible refine HS1.out.mono ?_); rintro e w2 ⟨rfl, rfl⟩; refine Hid.out ?_)
  refine Lib.hid ?_
  have HB1 := Lib.hid (HBI.out w1 K1)
  go_wp2_with (go_at_call 19; (with_reducible refine HB1.out.mono ?_); rintro e w2 ⟨rfl, rfl⟩; refine Hid.out ?_)
  refine Lib.hid ?_
  have HU1 := Lib.hid (HUB.out w1 K1)
  go_wp2_with (go_at_call 53; (with_reducible refine HU1.out.mono ?_); rintro e w3 ⟨vb, rfl, hvb, K3⟩; refine Hid.out ?_)
  refine Lib.hid ?_
  have HU2 := Lib.hid (HUA.out w3 (K1.tr K3))
  go_wp2_with (go_at_call 53; (with_reducible refine HU2.out.mono ?_); rintro e w4 ⟨vr, rfl, hvr, K4⟩; refine Hid.out ?_)
  refine Lib.hid ?_
  have MB4 := Lib.hid (hvb.kp K4)
  have MA4 := Lib.hid hvr
  have K0 := Lib.hid ((K1.tr K3).tr K4)
  clear hvb hvr K1 K3 K4
  obtain ⟨vo, vc, eb, c1, c2, c3, c4⟩ := MB4.out
  obtain ⟨b2, off2, v, rfl, hcv2, hv32, HV⟩ := c4.at c3 ((toL B').length - 1) (by rw [← HLN.out]; omega)
  rw [← HLN.out] at eb c1 hcv2 HV
  rw [← HV.out] at hvt hvd
  have HVD := Lib.hid hvd
  have HCV := Lib.hid (fun w' (k : Kp w4 w') => (k.cell (World.block_lt_of_cell? w4 _ hcv2)).trans hcv2)
  subst eb
  obtain ⟨ro, rc, er, r1, r2, r3, r4⟩ := MA4.out
  rw [← HLR.out] at er r1
  subst er
  unfold maxLen at c2 r2
  have hrs := r4
  clear c3 c4 r3 r4 hcv2 HV hvd
  have hci : (lr : Int) - (n : Int) + 1 = (cnt : Int) := by omega
  go_wp2_with (at_make; refine wpList_make_full _ rfl _ _ 22 rfl w4.heap.size 45 i0 (.int .u32 0) 1 undU32s hi hz0 hz1 _ _ _ _ cnt rfl rfl (by omega) (by omega) (by rw [hz2]; omega) (by unfold maxLen; omega) (Nat.le_refl _) ?_; intro w5 hown hg; have O1 := Lib.hid (Own.of_make hown); have K5 := Lib.hid ((Below.refl w4.heap.size w4).grown hg (Nat.le_refl _) (by intro j hj; cases hj)); clear hown hg)
  have HB2w := Lib.hid (fun w' (k : Kp w4 w') => MB4.out.kp k)
  have HA2 := Lib.hid (MA4.out.kp K5.out)
  clear MB4 MA4
  have HNI : Hid (NotIn w4.heap.size (.slice ro lr rc)) := by
    refine Lib.hid ?_
    have h0 : 0 < (toL A').length := by rw [← HLR.out]; omega
    obtain ⟨b9, off9, _, e9, hc9, _, _⟩ := hrs.at (limbs_toL A') 0 h0
    have h9 := World.block_lt_of_cell? w4 _ hc9
    intro b off sp l c e
    rw [e9] at e
    obtain ⟨⟨rfl, _⟩, _⟩ : (b9 = b ∧ _) ∧ _ := by simpa using e
    exact Nat.ne_of_lt h9
  clear hrs
  go_loopw [5, 15] (fun rv kv wr => ∃ (j R : Nat) (Q : List Nat), j ≤ cnt ∧ kv = .int .i64 ((j : Int) - 1) ∧ Hid (M wr rv R) ∧ Hid (R < B' * 4294967296 ^ j) ∧ Hid (Own wr 45 w4.heap.size Q) ∧ Hid (Limbs Q) ∧ Hid (Q.length = cnt) ∧
    Hid (A' = R + B' * (4294967296 ^ j * val (Q.drop j))) ∧ Hid (NotIn w4.heap.size rv) ∧ Hid (Kp w4 wr)) (fun _ kv _ => (intOf kv + 1).toNat)
  case atStart => exact ⟨cnt, A', List.replicate cnt 0, Nat.le_refl _, by go_num, HA2, HST, O1, Lib.hid (Limbs.replicate _), Lib.hid (by simp), Lib.hid (by simp [val]), HNI, K5⟩
  case round =>
    obtain ⟨j, R, Q, hj, rfl, HR, HRL, HQ, HQL, HQl, HRA, HRN, K6⟩ := hrel
    by_cases hj0 : 0 < j
    · obtain ⟨i, rfl⟩ : ∃ i, j = i + 1 := ⟨j - 1, by omega⟩
      have hii : ((i + 1 : Nat) : Int) - 1 = (i : Int) := by omega
      rw [hii]
      obtain ⟨vo2, vc2, x1, x2, x3, x4, x5⟩ := HR.out
      subst x1
      have hRb : R < 4294967296 ^ (i + n - 1 + 2) := by
        have h1 := HRL.out
        have h2 := toL_lt B'
        rw [← HLN.out] at h2
        have h3 := Nat.mul_lt_mul_of_pos_right h2 (Nat.pow_pos (show 0 < 4294967296 by omega) : 0 < 4294967296 ^ (i + 1))
        rw [← Nat.pow_add, show n + (i + 1) = i + n - 1 + 2 by omega] at h3
        omega
      have hT := top_two (limbs_toL R) (m := i + n - 1) (by rw [val_toL]; exact hRb)
      rw [val_toL, show i + n - 1 + 1 = i + n by omega] at hT
      have hg1 := guess_ge (R := R) (k := i) HVD.out (by omega)
      rw [show i + (n - 1) = i + n - 1 by omega] at hg1
      have hdl := digit_lt HRL.out
      obtain ⟨T, hTT⟩ : ∃ T, T = R / 4294967296 ^ (i + n - 1) := ⟨_, rfl⟩
      obtain ⟨dt, hdt⟩ : ∃ d, d = R / (B' * 4294967296 ^ i) := ⟨_, rfl⟩
      rw [← hTT] at hT hg1
      rw [← hdt] at hg1 hdl
      obtain ⟨q0, hq0⟩ : ∃ d, d = T / v := ⟨_, rfl⟩
      rw [← hq0] at hg1
      obtain ⟨d0, hd0⟩ : ∃ d, d = min q0 4294967295 := ⟨_, rfl⟩
      have hd0t : dt ≤ d0 := by omega
      have hd0l : d0 < 4294967296 := by omega
      have hTb : T < 18446744073709551616 := by rw [← hT]; have h1 := (limbs_toL R).getD (i + n); have h2 := (limbs_toL R).getD (i + n - 1); omega
      have hmin : min (q0 : Int) 4294967295 = (d0 : Int) := by omega
      have hib : i < cnt := by omega
      have hcb : cnt ≤ 1073741827 := by omega
      have hszk : (toL (4294967296 ^ i)).length ≤ i + 1 := length_toL_le _ _ (Nat.pow_lt_pow_right (by omega) (by omega))
      have hqT : q0 ≤ T := by rw [hq0]; exact Nat.div_le_self _ _
      have hwq : IntKind.u64.wrap (q0 : Int) = (q0 : Int) := IntWalk.u64_in _ (by omega)
      have hdm : (d0 : Int) % 4294967296 = (d0 : Int) := by omega
      have htd : (T : Int).tdiv (v : Int) = (q0 : Int) := by rw [tdivN, hq0]
      obtain ⟨t1, ht1⟩ : ∃ t, t = (toL R).getD (i + n) 0 := ⟨_, rfl⟩
      obtain ⟨t0, ht0⟩ : ∃ t, t = (toL R).getD (i + n - 1) 0 := ⟨_, rfl⟩
      have ht1b : t1 < 4294967296 := by rw [ht1]; exact (limbs_toL R).getD _
      have ht0b : t0 < 4294967296 := by rw [ht0]; exact (limbs_toL R).getD _
      rw [← ht1, ← ht0] at hT
      have horT := orsum ht1b ht0b
      rw [hT] at horT
      obtain ⟨lx, hlx⟩ : ∃ l, l = (toL R).length := ⟨_, rfl⟩
      obtain ⟨wg, rfl⟩ : ∃ wg, wg = wr := ⟨_, rfl⟩
      have HCV2 := HCV.out wg K6.out
      unfold maxLen at x3
      have HDT := Lib.hid hdt
      have HB6 := Lib.hid (HB2w.out wg K6.out)
      have hszd : (toL d0).length ≤ 1 := sz_limb hd0l
      have hszp := length_toL_mul B' d0
      rw [← HLN.out] at hszp
      have HSZ := Lib.hid (show (toL (B' * d0)).length ≤ 549755813888 by omega)
      have hszq := length_toL_mul (B' * d0) (4294967296 ^ i)
      have HSZ2 := Lib.hid (fun d (h : d ≤ d0) => Nat.le_trans (length_mono (B' * d * 4294967296 ^ i) _ (Nat.mul_le_mul_right _ (Nat.mul_le_mul_left _ h))) (show (toL (B' * d0 * 4294967296 ^ i)).length ≤ 1099511627776 by omega))
      have HSZB := Lib.hid (show (toL B').length ≤ 549755813888 by rw [← HLN.out]; omega)
      clear hszd hszp hszq hszk
      have HX5 := Lib.hid x5
      have HX4 := Lib.hid x4
      have hlx2 := Lib.hid hlx
      have hlxb : lx ≤ 1099511627776 := by
        have h1 : (toL R).length ≤ i + n - 1 + 2 := length_toL_le _ _ hRb
        omega
      rw [← hlx] at x2 HR HRN ⊢
      have hcases : (i + n < lx) ∨ (¬ i + n < lx ∧ i + n - 1 < lx) ∨ (¬ i + n < lx ∧ ¬ i + n - 1 < lx) := by omega
      rcases hcases with c1 | ⟨c1, c2⟩ | ⟨c1, c2⟩
      · obtain ⟨rb, ro2, y1, e1, hc1, hy1, HY1⟩ := HX5.out.at HX4.out (i + n) (by rw [← hlx]; exact c1)
        obtain ⟨rb', ro', y0, e0, hc0, hy0, HY0⟩ := HX5.out.at HX4.out (i + n - 1) (by rw [← hlx]; omega)
        subst e1
        obtain ⟨rfl, rfl⟩ : rb = rb' ∧ ro2 = ro' := by simpa using e0
        obtain rfl : y1 = t1 := by rw [HY1.out, ht1]
        obtain rfl : y0 = t0 := by rw [HY0.out, ht0]
        clear hj hii hRb hT hTT hg1 hq0 hd0 ht1 ht0 x4 x5 hlx HY1 HY0 e0 hdt hqT
        have HTM := Lib.hid (times_m HB6.out (k := n) (by rw [HLN.out]; exact Nat.le_refl _) (by omega) hd0l)
        go_wp2_with (go_at_call 55; (with_reducible refine HTM.out.mono ?_); rintro e w7 ⟨v7, rfl, h7, K7⟩; refine Hid.out ?_)
        refine Lib.hid ?_
        have HSH := Lib.hid (shifted_any (q := i) h7 HSZ.out (by omega))
        go_wp2_with (go_at_call 54; (with_reducible refine HSH.out.mono ?_); rintro e w8 ⟨v8, rfl, h8, hn8, K8⟩; refine Hid.out ?_)
        refine Lib.hid ?_
        have HP8 := Lib.hid h8
        have HN8 := Lib.hid (hn8.notIn (Nat.lt_of_lt_of_le HQ.out.lt K7.size))
        have HK8 := Lib.hid (K7.tr K8)
        clear h7 h8 hn8 K7 K8
        have HD0 := Lib.hid hd0t
        clear hd0t
        go_wp2_with fail
        go_loopw [17, 18] (fun dv pv wr => ∃ d : Nat, dv = .int .u64 (d : Nat) ∧ d ≤ d0 ∧ Hid (dt ≤ d) ∧ Hid (M wr pv (B' * d * 4294967296 ^ i)) ∧ Hid (NotIn w4.heap.size pv) ∧ Hid (Kp wg wr)) (fun dv _ _ => (intOf dv).toNat)
        case atStart => exact ⟨d0, rfl, Nat.le_refl _, HD0, HP8, HN8, HK8⟩
        case round =>
          obtain ⟨d, rfl, hdd, HDD, HPV, HPN, HK9⟩ := hrel
          have HRW := Lib.hid (HR.out.kp HK9.out)
          have HCM := Lib.hid (rcmp_any _ _ (B' * d * 4294967296 ^ i) R wr HPV.out HRW.out)
          obtain ⟨c2, hc2⟩ : ∃ c, c = cmpv (B' * d * 4294967296 ^ i) R := ⟨_, rfl⟩
          rw [← hc2] at HCM
          have hgt : 0 < c2 ↔ dt < d := by rw [hc2, cmpv_pos, guess_gt hB'0, ← HDT.out]
          clear hc2
          by_cases hdt : dt < d
          · have hc3 : 0 < c2 := hgt.2 hdt
            obtain ⟨d', rfl⟩ : ∃ d', d = d' + 1 := ⟨d - 1, by omega⟩
            have hdd' : ((d' + 1 : Nat) : Int) - 1 = (d' : Int) := by omega
            have hdw : IntKind.u64.wrap (d' : Int) = (d' : Int) := IntWalk.u64_in _ (by omega)
            have hd'd : d' < d0 := by omega
            have HDD' := Lib.hid (show dt ≤ d' by omega)
            have HSF := Lib.hid (fun w' (k : Kp wr w') => shifted_any (q := i) ((HB6.out.kp HK9.out).kp k) HSZB.out (by omega))
            have HMI := Lib.hid (fun w' v (k : Kp wr w') (hv : M w' v (B' * 4294967296 ^ i)) => minus_new (HPV.out.kp k) hv (HSZ2.out _ hdd) (Nat.mul_le_mul_right _ (Nat.le_mul_of_pos_right _ (Nat.succ_pos _))))
            rw [guess_less] at HMI
            clear hgt hdt
            go_wp2_with (go_at_call 17; (with_reducible refine HCM.out.mono ?_); rintro e w10 ⟨rfl, K10⟩; refine Hid.out ?_)
            refine Lib.hid ?_
            have HSF1 := Lib.hid (HSF.out w10 K10)
            go_wp2_with (go_at_call 54; (with_reducible refine HSF1.out.mono ?_); rintro e w11 ⟨v11, rfl, h11, _, K11⟩; refine Hid.out ?_)
            refine Lib.hid ?_
            have HMI1 := Lib.hid (HMI.out w11 v11 (K10.tr K11) h11)
            clear h11
            go_wp2_with (go_at_call 45; (with_reducible refine HMI1.out.mono ?_); rintro e w12 ⟨v12, rfl, h12, hn12, K12⟩; refine Hid.out ?_)
            refine Lib.hid ?_
            have HM12 := Lib.hid h12
            have HN12 := Lib.hid (hn12.notIn (Nat.lt_of_lt_of_le HQ.out.lt (HK9.out.tr (K10.tr K11)).size))
            have HK12 := Lib.hid (HK9.out.tr ((K10.tr K11).tr K12))
            clear h12 hn12 K10 K11 K12
            go_wp2_with fail
            go_roundw
            case rel => exact ⟨d', by go_num, by omega, HDD', HM12, HN12, HK12⟩
            case measure => simp [intOf]
          · have hc3 : ¬ 0 < c2 := fun h => hdt (hgt.1 h)
            obtain rfl : d = dt := by have := HDD.out; omega
            clear hgt hdt
            go_wp2_with (go_at_call 17; (with_reducible refine HCM.out.mono ?_); rintro e w10 ⟨rfl, K10⟩; refine Hid.out ?_)
            refine Lib.hid ?_
            have K11 := K6.out.tr (HK9.out.tr K10)
            have HQ2 := Lib.hid (HQ.out.kp (HK9.out.tr K10))
            have hqc := HQ2.out.cell i (by rw [HQl.out]; exact hib)
            have hqf := HQ2.out.frozen i
            obtain ⟨oq, hoq⟩ : ∃ o, o = Q.getD i 0 := ⟨_, rfl⟩
            rw [← hoq] at hqc
            have hoff := digit_off hB'0 HDT.out HRA.out
            have HW : Kp w4 (w10.setCell ⟨w4.heap.size, i, none⟩ (.int .u32 (d : Nat))) := K11.setCell (Nat.le_refl _) _
            have HRX := Lib.hid ((HR.out.kp (HK9.out.tr K10)).put HRN.out i (.int .u32 (d : Nat)))
            have HPX := Lib.hid ((HPV.out.kp K10).put HPN.out i (.int .u32 (d : Nat)))
            have HQX := Lib.hid (HQ2.out.set i d)
            have HWX := Lib.hid HW
            have HKX := Lib.hid K10
            have hlR2 : (toL R).length ≤ 1099511627776 := by rw [← hlx2.out]; exact hlxb
            have HMX := Lib.hid (minus_new HRX.out HPX.out hlR2 hoff.2.2)
            have HOFF := Lib.hid hoff
            have hdm2 : (d : Int) % 4294967296 = (d : Int) := by omega
            clear K10 K11 HW hoff hlR2
            go_wp2_with (go_at_call 45; (with_reducible refine HMX.out.mono ?_); rintro e w12 ⟨v12, rfl, h12, hn12, K12⟩; refine Hid.out ?_)
            refine Lib.hid ?_
            go_wp2_with fail
            go_roundw
            case rel => exact ⟨i, R - B' * d * 4294967296 ^ i, Q.set i d, Nat.le_of_lt hib, rfl, Lib.hid h12, Lib.hid HOFF.out.1, Lib.hid (HQX.out.kp K12), Lib.hid (HQL.out.set _ _ (by omega)), Lib.hid (by rw [List.length_set]; exact HQl.out),
              Lib.hid (by rw [val_set_drop Q i d (by rw [HQl.out]; exact hib)]; exact HOFF.out.2.1), Lib.hid (hn12.notIn (Nat.lt_of_lt_of_le HQ.out.lt (by have := (HK9.out).size; have := HKX.out.size; simp at *; omega))), Lib.hid (HWX.out.tr K12)⟩
            case measure => simp [intOf]
      · obtain ⟨rb', ro', y0, e0, hc0, hy0, HY0⟩ := HX5.out.at HX4.out (i + n - 1) (by rw [← hlx]; omega)
        subst e0
        obtain rfl : y0 = t0 := by rw [HY0.out, ht0]
        have ht10 : t1 = 0 := by rw [ht1]; exact (getD_past _ _ (by rw [← hlx]; exact c1)).symm
        have hor0 : bits .or .u64 0 (y0 : Int) = (T : Int) := by rw [← horT, ht10]; rfl
        clear hj hii hRb hT hTT hg1 hq0 hd0 ht1 ht0 x4 x5 hlx HY0 hdt hqT ht10 horT
        have HTM := Lib.hid (times_m HB6.out (k := n) (by rw [HLN.out]; exact Nat.le_refl _) (by omega) hd0l)
        go_wp2_with (go_at_call 55; (with_reducible refine HTM.out.mono ?_); rintro e w7 ⟨v7, rfl, h7, K7⟩; refine Hid.out ?_)
        refine Lib.hid ?_
        have HSH := Lib.hid (shifted_any (q := i) h7 HSZ.out (by omega))
        go_wp2_with (go_at_call 54; (with_reducible refine HSH.out.mono ?_); rintro e w8 ⟨v8, rfl, h8, hn8, K8⟩; refine Hid.out ?_)
        refine Lib.hid ?_
        have HP8 := Lib.hid h8
        have HN8 := Lib.hid (hn8.notIn (Nat.lt_of_lt_of_le HQ.out.lt K7.size))
        have HK8 := Lib.hid (K7.tr K8)
        clear h7 h8 hn8 K7 K8
        have HD0 := Lib.hid hd0t
        clear hd0t
        go_wp2_with fail
        go_loopw [17, 18] (fun dv pv wr => ∃ d : Nat, dv = .int .u64 (d : Nat) ∧ d ≤ d0 ∧ Hid (dt ≤ d) ∧ Hid (M wr pv (B' * d * 4294967296 ^ i)) ∧ Hid (NotIn w4.heap.size pv) ∧ Hid (Kp wg wr)) (fun dv _ _ => (intOf dv).toNat)
        case atStart => exact ⟨d0, rfl, Nat.le_refl _, HD0, HP8, HN8, HK8⟩
        case round =>
          obtain ⟨d, rfl, hdd, HDD, HPV, HPN, HK9⟩ := hrel
          have HRW := Lib.hid (HR.out.kp HK9.out)
          have HCM := Lib.hid (rcmp_any _ _ (B' * d * 4294967296 ^ i) R wr HPV.out HRW.out)
          obtain ⟨c2, hc2⟩ : ∃ c, c = cmpv (B' * d * 4294967296 ^ i) R := ⟨_, rfl⟩
          rw [← hc2] at HCM
          have hgt : 0 < c2 ↔ dt < d := by rw [hc2, cmpv_pos, guess_gt hB'0, ← HDT.out]
          clear hc2
          by_cases hdt : dt < d
          · have hc3 : 0 < c2 := hgt.2 hdt
            obtain ⟨d', rfl⟩ : ∃ d', d = d' + 1 := ⟨d - 1, by omega⟩
            have hdd' : ((d' + 1 : Nat) : Int) - 1 = (d' : Int) := by omega
            have hdw : IntKind.u64.wrap (d' : Int) = (d' : Int) := IntWalk.u64_in _ (by omega)
            have hd'd : d' < d0 := by omega
            have HDD' := Lib.hid (show dt ≤ d' by omega)
            have HSF := Lib.hid (fun w' (k : Kp wr w') => shifted_any (q := i) ((HB6.out.kp HK9.out).kp k) HSZB.out (by omega))
            have HMI := Lib.hid (fun w' v (k : Kp wr w') (hv : M w' v (B' * 4294967296 ^ i)) => minus_new (HPV.out.kp k) hv (HSZ2.out _ hdd) (Nat.mul_le_mul_right _ (Nat.le_mul_of_pos_right _ (Nat.succ_pos _))))
            rw [guess_less] at HMI
            clear hgt hdt
            go_wp2_with (go_at_call 17; (with_reducible refine HCM.out.mono ?_); rintro e w10 ⟨rfl, K10⟩; refine Hid.out ?_)
            refine Lib.hid ?_
            have HSF1 := Lib.hid (HSF.out w10 K10)
            go_wp2_with (go_at_call 54; (with_reducible refine HSF1.out.mono ?_); rintro e w11 ⟨v11, rfl, h11, _, K11⟩; refine Hid.out ?_)
            refine Lib.hid ?_
            have HMI1 := Lib.hid (HMI.out w11 v11 (K10.tr K11) h11)
            clear h11
            go_wp2_with (go_at_call 45; (with_reducible refine HMI1.out.mono ?_); rintro e w12 ⟨v12, rfl, h12, hn12, K12⟩; refine Hid.out ?_)
            refine Lib.hid ?_
            have HM12 := Lib.hid h12
            have HN12 := Lib.hid (hn12.notIn (Nat.lt_of_lt_of_le HQ.out.lt (HK9.out.tr (K10.tr K11)).size))
            have HK12 := Lib.hid (HK9.out.tr ((K10.tr K11).tr K12))
            clear h12 hn12 K10 K11 K12
            go_wp2_with fail
            go_roundw
            case rel => exact ⟨d', by go_num, by omega, HDD', HM12, HN12, HK12⟩
            case measure => simp [intOf]
          · have hc3 : ¬ 0 < c2 := fun h => hdt (hgt.1 h)
            obtain rfl : d = dt := by have := HDD.out; omega
            clear hgt hdt
            go_wp2_with (go_at_call 17; (with_reducible refine HCM.out.mono ?_); rintro e w10 ⟨rfl, K10⟩; refine Hid.out ?_)
            refine Lib.hid ?_
            have K11 := K6.out.tr (HK9.out.tr K10)
            have HQ2 := Lib.hid (HQ.out.kp (HK9.out.tr K10))
            have hqc := HQ2.out.cell i (by rw [HQl.out]; exact hib)
            have hqf := HQ2.out.frozen i
            obtain ⟨oq, hoq⟩ : ∃ o, o = Q.getD i 0 := ⟨_, rfl⟩
            rw [← hoq] at hqc
            have hoff := digit_off hB'0 HDT.out HRA.out
            have HW : Kp w4 (w10.setCell ⟨w4.heap.size, i, none⟩ (.int .u32 (d : Nat))) := K11.setCell (Nat.le_refl _) _
            have HRX := Lib.hid ((HR.out.kp (HK9.out.tr K10)).put HRN.out i (.int .u32 (d : Nat)))
            have HPX := Lib.hid ((HPV.out.kp K10).put HPN.out i (.int .u32 (d : Nat)))
            have HQX := Lib.hid (HQ2.out.set i d)
            have HWX := Lib.hid HW
            have HKX := Lib.hid K10
            have hlR2 : (toL R).length ≤ 1099511627776 := by rw [← hlx2.out]; exact hlxb
            have HMX := Lib.hid (minus_new HRX.out HPX.out hlR2 hoff.2.2)
            have HOFF := Lib.hid hoff
            have hdm2 : (d : Int) % 4294967296 = (d : Int) := by omega
            clear K10 K11 HW hoff hlR2
            go_wp2_with (go_at_call 45; (with_reducible refine HMX.out.mono ?_); rintro e w12 ⟨v12, rfl, h12, hn12, K12⟩; refine Hid.out ?_)
            refine Lib.hid ?_
            go_wp2_with fail
            go_roundw
            case rel => exact ⟨i, R - B' * d * 4294967296 ^ i, Q.set i d, Nat.le_of_lt hib, rfl, Lib.hid h12, Lib.hid HOFF.out.1, Lib.hid (HQX.out.kp K12), Lib.hid (HQL.out.set _ _ (by omega)), Lib.hid (by rw [List.length_set]; exact HQl.out),
              Lib.hid (by rw [val_set_drop Q i d (by rw [HQl.out]; exact hib)]; exact HOFF.out.2.1), Lib.hid (hn12.notIn (Nat.lt_of_lt_of_le HQ.out.lt (by have := (HK9.out).size; have := HKX.out.size; simp at *; omega))), Lib.hid (HWX.out.tr K12)⟩
            case measure => simp [intOf]
      · have ht10 : t1 = 0 := by rw [ht1]; exact (getD_past _ _ (by rw [← hlx]; exact c1)).symm
        have ht00 : t0 = 0 := by rw [ht0]; exact (getD_past _ _ (by rw [← hlx]; exact c2)).symm
        have hT0 : T = 0 := by rw [← hT, ht10, ht00]
        subst hT0
        have hq00 : q0 = 0 := by rw [hq0]; exact Nat.zero_div _
        subst hq00
        have hmin0 : min (0 : Int) 4294967295 = (d0 : Int) := by omega
        have HTM := Lib.hid (times_m HB6.out (k := n) (by rw [HLN.out]; exact Nat.le_refl _) (by omega) hd0l)
        clear hj hii hRb hT hTT hg1 hq0 hd0 ht1 ht0 x4 x5 hlx hdt hqT ht10 ht00 horT htd hwq hmin
        go_wp2_with (go_at_call 55; (with_reducible refine HTM.out.mono ?_); rintro e w7 ⟨v7, rfl, h7, K7⟩; refine Hid.out ?_)
        refine Lib.hid ?_
        have HSH := Lib.hid (shifted_any (q := i) h7 HSZ.out (by omega))
        go_wp2_with (go_at_call 54; (with_reducible refine HSH.out.mono ?_); rintro e w8 ⟨v8, rfl, h8, hn8, K8⟩; refine Hid.out ?_)
        refine Lib.hid ?_
        have HP8 := Lib.hid h8
        have HN8 := Lib.hid (hn8.notIn (Nat.lt_of_lt_of_le HQ.out.lt K7.size))
        have HK8 := Lib.hid (K7.tr K8)
        clear h7 h8 hn8 K7 K8
        have HD0 := Lib.hid hd0t
        clear hd0t
        go_wp2_with fail
        go_loopw [17, 18] (fun dv pv wr => ∃ d : Nat, dv = .int .u64 (d : Nat) ∧ d ≤ d0 ∧ Hid (dt ≤ d) ∧ Hid (M wr pv (B' * d * 4294967296 ^ i)) ∧ Hid (NotIn w4.heap.size pv) ∧ Hid (Kp wg wr)) (fun dv _ _ => (intOf dv).toNat)
        case atStart => exact ⟨d0, rfl, Nat.le_refl _, HD0, HP8, HN8, HK8⟩
        case round =>
          obtain ⟨d, rfl, hdd, HDD, HPV, HPN, HK9⟩ := hrel
          have HRW := Lib.hid (HR.out.kp HK9.out)
          have HCM := Lib.hid (rcmp_any _ _ (B' * d * 4294967296 ^ i) R wr HPV.out HRW.out)
          obtain ⟨c2, hc2⟩ : ∃ c, c = cmpv (B' * d * 4294967296 ^ i) R := ⟨_, rfl⟩
          rw [← hc2] at HCM
          have hgt : 0 < c2 ↔ dt < d := by rw [hc2, cmpv_pos, guess_gt hB'0, ← HDT.out]
          clear hc2
          by_cases hdt : dt < d
          · have hc3 : 0 < c2 := hgt.2 hdt
            obtain ⟨d', rfl⟩ : ∃ d', d = d' + 1 := ⟨d - 1, by omega⟩
            have hdd' : ((d' + 1 : Nat) : Int) - 1 = (d' : Int) := by omega
            have hdw : IntKind.u64.wrap (d' : Int) = (d' : Int) := IntWalk.u64_in _ (by omega)
            have hd'd : d' < d0 := by omega
            have HDD' := Lib.hid (show dt ≤ d' by omega)
            have HSF := Lib.hid (fun w' (k : Kp wr w') => shifted_any (q := i) ((HB6.out.kp HK9.out).kp k) HSZB.out (by omega))
            have HMI := Lib.hid (fun w' v (k : Kp wr w') (hv : M w' v (B' * 4294967296 ^ i)) => minus_new (HPV.out.kp k) hv (HSZ2.out _ hdd) (Nat.mul_le_mul_right _ (Nat.le_mul_of_pos_right _ (Nat.succ_pos _))))
            rw [guess_less] at HMI
            clear hgt hdt
            go_wp2_with (go_at_call 17; (with_reducible refine HCM.out.mono ?_); rintro e w10 ⟨rfl, K10⟩; refine Hid.out ?_)
            refine Lib.hid ?_
            have HSF1 := Lib.hid (HSF.out w10 K10)
            go_wp2_with (go_at_call 54; (with_reducible refine HSF1.out.mono ?_); rintro e w11 ⟨v11, rfl, h11, _, K11⟩; refine Hid.out ?_)
            refine Lib.hid ?_
            have HMI1 := Lib.hid (HMI.out w11 v11 (K10.tr K11) h11)
            clear h11
            go_wp2_with (go_at_call 45; (with_reducible refine HMI1.out.mono ?_); rintro e w12 ⟨v12, rfl, h12, hn12, K12⟩; refine Hid.out ?_)
            refine Lib.hid ?_
            have HM12 := Lib.hid h12
            have HN12 := Lib.hid (hn12.notIn (Nat.lt_of_lt_of_le HQ.out.lt (HK9.out.tr (K10.tr K11)).size))
            have HK12 := Lib.hid (HK9.out.tr ((K10.tr K11).tr K12))
            clear h12 hn12 K10 K11 K12
            go_wp2_with fail
            go_roundw
            case rel => exact ⟨d', by go_num, by omega, HDD', HM12, HN12, HK12⟩
            case measure => simp [intOf]
          · have hc3 : ¬ 0 < c2 := fun h => hdt (hgt.1 h)
            obtain rfl : d = dt := by have := HDD.out; omega
            clear hgt hdt
            go_wp2_with (go_at_call 17; (with_reducible refine HCM.out.mono ?_); rintro e w10 ⟨rfl, K10⟩; refine Hid.out ?_)
            refine Lib.hid ?_
            have K11 := K6.out.tr (HK9.out.tr K10)
            have HQ2 := Lib.hid (HQ.out.kp (HK9.out.tr K10))
            have hqc := HQ2.out.cell i (by rw [HQl.out]; exact hib)
            have hqf := HQ2.out.frozen i
            obtain ⟨oq, hoq⟩ : ∃ o, o = Q.getD i 0 := ⟨_, rfl⟩
            rw [← hoq] at hqc
            have hoff := digit_off hB'0 HDT.out HRA.out
            have HW : Kp w4 (w10.setCell ⟨w4.heap.size, i, none⟩ (.int .u32 (d : Nat))) := K11.setCell (Nat.le_refl _) _
            have HRX := Lib.hid ((HR.out.kp (HK9.out.tr K10)).put HRN.out i (.int .u32 (d : Nat)))
            have HPX := Lib.hid ((HPV.out.kp K10).put HPN.out i (.int .u32 (d : Nat)))
            have HQX := Lib.hid (HQ2.out.set i d)
            have HWX := Lib.hid HW
            have HKX := Lib.hid K10
            have hlR2 : (toL R).length ≤ 1099511627776 := by rw [← hlx2.out]; exact hlxb
            have HMX := Lib.hid (minus_new HRX.out HPX.out hlR2 hoff.2.2)
            have HOFF := Lib.hid hoff
            have hdm2 : (d : Int) % 4294967296 = (d : Int) := by omega
            clear K10 K11 HW hoff hlR2
            go_wp2_with (go_at_call 45; (with_reducible refine HMX.out.mono ?_); rintro e w12 ⟨v12, rfl, h12, hn12, K12⟩; refine Hid.out ?_)
            refine Lib.hid ?_
            go_wp2_with fail
            go_roundw
            case rel => exact ⟨i, R - B' * d * 4294967296 ^ i, Q.set i d, Nat.le_of_lt hib, rfl, Lib.hid h12, Lib.hid HOFF.out.1, Lib.hid (HQX.out.kp K12), Lib.hid (HQL.out.set _ _ (by omega)), Lib.hid (by rw [List.length_set]; exact HQl.out),
              Lib.hid (by rw [val_set_drop Q i d (by rw [HQl.out]; exact hib)]; exact HOFF.out.2.1), Lib.hid (hn12.notIn (Nat.lt_of_lt_of_le HQ.out.lt (by have := (HK9.out).size; have := HKX.out.size; simp at *; omega))), Lib.hid (HWX.out.tr K12)⟩
            case measure => simp [intOf]
    · obtain rfl : j = 0 := by omega
      have hv := HRA.out
      rw [Nat.pow_zero, Nat.one_mul, List.drop_zero] at hv
      have hl := HRL.out
      rw [Nat.pow_zero, Nat.mul_one] at hl
      obtain ⟨e1, e2⟩ := HEND.out R (val Q) hv hl
      have hlr2 : (toL R).length ≤ 549755813888 := by
        have := length_mono R B' (Nat.le_of_lt hl)
        rw [← HLN.out] at this
        omega
      have hrd := HQ.out.rd HQL.out cnt (by rw [HQl.out]; exact Nat.le_refl _) cnt (Nat.le_refl _) (by unfold maxLen; omega)
      rw [List.take_of_length_le (by rw [HQl.out]; exact Nat.le_refl _), hcnt] at hrd
      have htl := toL_val HQL.out
      rw [e1] at htl
      have HTR := Lib.hid (fun w' (k : Kp wr w') => trim_any _ Q w' (hrd.kp k) (by rw [HQl.out]; omega))
      rw [← htl] at HTR
      have HDN := Lib.hid (fun w' (k : Kp wr w') => down_m (HR.out.kp k) hlr2 s (by omega))
      rw [e2] at HDN
      clear hv hl e1 e2 hlr2 hrd htl
      have HTR1 := Lib.hid (HTR.out wr (Below.refl _ _))
      go_wp2_with (go_at_call 39; (with_reducible refine HTR1.out.mono ?_); rintro e w20 ⟨vq, rfl, hq, K20⟩; refine Hid.out ?_)
      refine Lib.hid ?_
      have HDN1 := Lib.hid (HDN.out w20 K20)
      have HVQ := Lib.hid hq
      clear hq
      go_wp2_with (go_at_call 56; (with_reducible refine HDN1.out.mono ?_); rintro e w21 ⟨vr2, rfl, hr2, K21⟩; refine Hid.out ?_)
      refine Lib.hid ?_
      go_wp2
      go_ret3
      exact ⟨_, _, rfl, HVQ.out.kp K21, hr2, (K0.out.tr K6.out).tr (K20.tr K21)⟩
end Go.Proofs.YtijadodleiiomaaDoor
