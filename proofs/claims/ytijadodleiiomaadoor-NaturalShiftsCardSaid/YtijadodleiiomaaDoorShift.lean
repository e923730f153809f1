/-
  natural.Shift: by walking its text.
-/
import Derived.Test.YtijadodleiiomaaDoorShW
namespace Go.Proofs.YtijadodleiiomaaDoor
open Go.RowKit

theorem up_fin {P : List Nat} {X q p : Nat} {xs : List Nat} (hX : xs.length = X) (hl : P.length = X + q + 1) (ht : P.take q = (List.replicate (X + q + 1) 0).take q) (hv : val ((P.drop q).take (X + 1)) = val xs * p) : val P = val xs * (4294967296 ^ q * p) := by
  subst hX
  rw [List.take_of_length_le (by rw [List.length_drop]; omega)] at hv
  conv => lhs; rw [← List.take_append_drop q P, val_append, hv, ht, List.length_take, Nat.min_eq_left (by simp; omega)]
  rw [List.take_replicate, val_replicate, Nat.zero_add, Nat.mul_left_comm]

set_option maxRecDepth 20000 in
set_option maxHeartbeats 1000000 in
theorem raised_core (a : Value) (X : List Nat) (n : Nat) (w : World) (ha : Rd w a X) (hl : X.length ≤ 549755813888) (hn : n ≤ 549755813888) :
    Calls Tryd.prog 58 #[a, .int .i64 (n : Nat)] w fun e w' => ∃ v', e = .returned v' ∧ Rd w' v' (toL (val X * 2 ^ n)) ∧ Kp w w' := by
  obtain ⟨i0, hi, hz0, hz1, hz2⟩ := info_parts infoU32
  obtain ⟨ao, ac, rfl, a1, a2, a3, a4⟩ := ha
  have a2' := a2
  have A3 := Lib.hid a3
  have A4 := Lib.hid a4
  have HP2 := Lib.hid (pow_split n)
  unfold maxLen at a2
  obtain ⟨q, hq⟩ : ∃ q, q = n / 32 := ⟨_, rfl⟩
  obtain ⟨r, hr⟩ : ∃ r, r = n % 32 := ⟨_, rfl⟩
  rw [← hq, ← hr] at HP2
  have hqi : (n : Int) / 32 = (q : Int) := by omega
  have hri : (n : Int) % 32 = (r : Int) := by omega
  have hr32 : r < 32 := by omega
  have hqb : q ≤ 17179869184 := by omega
  rw [HP2.out]
  clear a3 a4 hq hr
  go_enter Tryd.func58, Tryd.ntmps58
  go_wp2_with (at_make; refine wpList_make_full _ rfl _ _ 22 rfl w.heap.size 45 i0 (.int .u32 0) 1 undU32s hi hz0 hz1 _ _ _ _ (X.length + q + 1) rfl rfl (by omega) (by omega) (by rw [hz2]; omega) (by unfold maxLen; omega) (Nat.le_refl _) ?_; intro w1 hown hg; have O1 := Lib.hid (Own.of_make hown); have K1 := (Below.refl w.heap.size w).grown hg (Nat.le_refl _) (by intro j hj; cases hj); clear hown hg; refine Hid.out ?_)
  refine Lib.hid ?_
  have HRA := Lib.hid (fun L C => raise_any w.heap.size q L C ao ac r (List.replicate (X.length + q + 1) 0) X w1 O1.out (Limbs.replicate _) A3.out (fun w' ho => A4.out.kp (ho.kp K1 (Nat.le_refl _))))
  go_wp2_with (go_at_call 71; refine (HRA.out _ _ (by omega) (by simp; omega) (by simp; omega) a1 a2' hr32).mono ?_; rintro e w2 ⟨rfl, P, hP, hPL, hPl, hPt, _, hPv, hon⟩; refine Hid.out ?_)
  refine Lib.hid ?_
  have hPl2 : P.length = X.length + q + 1 := by rw [hPl, List.length_replicate]
  have HP := Lib.hid hP
  have HPL := Lib.hid hPL
  have HPl := Lib.hid hPl2
  have HF := Lib.hid (up_fin rfl hPl2 hPt hPv)
  have K2 : Kp w w2 := hon.kp K1 (Nat.le_refl _)
  have HTR := Lib.hid (ntrim_of (some ⟨w.heap.size, 0, none⟩) (X.length + q + 1) (X.length + q + 1) P w2 hPl2 (Nat.le_refl _) (by unfold maxLen; omega) hP.sl)
  clear hP hPL hPl hPt hPv hPl2 hon
  go_wp2_with (go_at_call 40; refine HTR.out.mono ?_; rintro e w3 ⟨rfl, rfl⟩)
  go_ret
  exact ⟨_, rfl, HP.out.mag HPL.out _ _ HF.out (by rw [HPl.out]; exact Nat.le_refl _) (by unfold maxLen; omega), K2⟩

theorem raised_any {w : World} {a : Value} {m : Nat} (ha : M w a m) {k : Nat} (hs : Sz k m) (hk : k ≤ 549755813888) (n : Nat) (hn : n ≤ 549755813888) :
    Calls Tryd.prog 58 #[a, .int .i64 (n : Nat)] w fun e w' => ∃ v', e = .returned v' ∧ M w' v' (m * 2 ^ n) ∧ Kp w w' := by
  have := raised_core a _ n w ha (Nat.le_trans hs hk) hn
  rw [val_toL] at this
  exact this

set_option maxRecDepth 20000 in
theorem shift_up {w : World} {a : Value} {m : Nat} (ha : M w a m) {k : Nat} (hs : Sz k m) (hk : k ≤ 549755813888) (n : Nat) (hn : n ≤ 16384) :
    Calls Tryd.prog 33 #[a, .int .i64 (n : Nat)] w fun e w' => ∃ v', e = .returned (.tuple #[v', .int .i64 0]) ∧ M w' v' (m * 2 ^ n) ∧ Kp w w' := by
  have HR := Lib.hid (raised_any ha hs hk n (by omega))
  go_enter Tryd.func33, Tryd.ntmps33
  go_wp2_with (go_at_call 58; refine HR.out.mono ?_; rintro e w1 ⟨v1, rfl, h1, K1⟩)
  go_ret2
  exact ⟨_, rfl, h1, K1⟩

theorem shift_far (a : Value) (n : Int) (w : World) (hn : 16384 < n) :
    Calls Tryd.prog 33 #[a, .int .i64 n] w fun e w' => e = .returned (.tuple #[.slice none 0 0, .int .i64 2]) ∧ w = w' := by
  go_enter Tryd.func33, Tryd.ntmps33
  go_wp2
  go_ret2
  exact ⟨rfl, rfl⟩

theorem neg_wrap {d : Nat} (h : d ≤ 9223372036854775808) : IntKind.u64.wrap (wrap64 (d : Int)) = (d : Int) := by
  unfold wrap64
  rw [IntKind.wrap_u64]
  omega

theorem Sl.drop {w : World} {b off : Nat} {X : List Nat} (h : Sl w (some ⟨b, off, none⟩) X) (q : Nat) : Sl w (some ⟨b, off + q, none⟩) (X.drop q) := by
  intro hne
  obtain ⟨b', off', he, hc⟩ := h (by intro e; simp [e] at hne)
  obtain ⟨rfl, rfl⟩ : b = b' ∧ off = off' := by simpa using he
  refine ⟨b, off + q, rfl, fun i hi => ?_⟩
  rw [List.length_drop] at hi
  rw [Nat.add_assoc, hc (q + i) (by omega)]
  simp [List.getD, List.getElem?_drop]

/-- The value v is the beginning of a row of the call's own, from the block base on, and reads as the magnitude n. -/
def Row (w : World) (base : Nat) (v : Value) (n : Nat) : Prop :=
  ∃ g P cap, v = .slice (some ⟨g, 0, none⟩) (toL n).length cap ∧ base ≤ g ∧ Own w 45 g P ∧ Limbs P ∧ (toL n).length ≤ P.length ∧ P.length ≤ cap ∧ cap ≤ maxLen ∧ P.take (toL n).length = toL n

theorem Row.m {w : World} {base : Nat} {v : Value} {n : Nat} (h : Row w base v n) : M w v n := by
  obtain ⟨g, P, cap, rfl, _, hO, hL, h1, h2, h3, h4⟩ := h
  have := hO.rd hL (toL n).length h1 cap (by omega) h3
  rw [h4] at this
  exact this

theorem Row.mono {w : World} {base base' : Nat} {v : Value} {n : Nat} (h : Row w base v n) (hb : base' ≤ base) : Row w base' v n := by
  obtain ⟨g, P, cap, rfl, h0, h⟩ := h
  exact ⟨g, P, cap, rfl, Nat.le_trans hb h0, h⟩

theorem Row.kp {w w' : World} {base : Nat} {v : Value} {n : Nat} (h : Row w base v n) (k : Kp w w') : Row w' base v n := by
  obtain ⟨g, P, cap, rfl, h0, hO, h⟩ := h
  exact ⟨g, P, cap, rfl, h0, hO.kp k, h⟩

theorem Own.row {w : World} {g : Nat} {P : List Nat} (h : Own w 45 g P) (hL : Limbs P) {base : Nat} (hb : base ≤ g) {cap : Nat} (hc : P.length = cap) {n : Nat} (hv : val P = n) (hm : cap ≤ maxLen) :
    Row w base (.slice (some ⟨g, 0, none⟩) (trimL P).length cap) n := by
  subst hv
  have e := toL_val hL
  refine ⟨g, P, cap, by rw [e], hb, h, hL, by rw [e]; exact length_trimL P, by omega, hm, by rw [e]; exact trimL_take P⟩

set_option maxRecDepth 20000 in
set_option maxHeartbeats 1000000 in
theorem lowered_core (a : Value) (X : List Nat) (d : Nat) (w : World) (ha : Rd w a X) (hl : X.length ≤ 549755813888) (hd2 : d ≤ 9223372036854775808) :
    Calls Tryd.prog 60 #[a, .int .u64 (d : Nat)] w fun e w' => ∃ v', e = .returned v' ∧ Rd w' v' (toL (val X / 2 ^ d)) ∧ Kp w w' ∧ (val X / 2 ^ d ≠ 0 → Row w' w.heap.size v' (val X / 2 ^ d)) := by
  obtain ⟨ao, ac, rfl, a1, a2, a3, a4⟩ := ha
  have A3 := Lib.hid a3
  have HP2 := Lib.hid (div_pow_split (val X) d)
  unfold maxLen at a2
  obtain ⟨q, hq⟩ : ∃ q, q = d / 32 := ⟨_, rfl⟩
  obtain ⟨r, hr⟩ : ∃ r, r = d % 32 := ⟨_, rfl⟩
  rw [← hq, ← hr, ← val_drop_div a3] at HP2
  have hqi : ((d : Int) / 32) = (q : Int) := by omega
  have hqw : IntKind.u64.wrap (q : Int) = (q : Int) := IntWalk.u64_in _ (by omega)
  have hri : (d : Int) % 32 = (r : Int) := by omega
  have hr32 : r < 32 := by omega
  rw [HP2.out]
  clear hd2 hq hr
  by_cases hqx : q < X.length
  · obtain ⟨b, off, rfl, _⟩ := a4.cell (by omega)
    have hlt := length_trimL (X.drop q)
    rw [List.length_drop] at hlt
    have HRd := Lib.hid (show Rd w (.slice (some ⟨b, off + q, none⟩) (X.length - q) (ac - q)) (X.drop q) from
      ⟨some ⟨b, off + q, none⟩, ac - q, by rw [List.length_drop], by rw [List.length_drop]; omega, by unfold maxLen; omega, a3.drop q, a4.drop q⟩)
    have HCP := Lib.hid (copied_any _ _ w HRd.out (by rw [List.length_drop]; omega))
    have HVT := Lib.hid (val_trimL (X.drop q))
    have HLT := Lib.hid (limbs_trimL (a3.drop q))
    obtain ⟨T, hT⟩ : ∃ T, T = trimL (X.drop q) := ⟨_, rfl⟩
    rw [← hT] at HCP HVT HLT hlt
    rw [← HVT.out]
    clear hT a3 a4
    go_enter Tryd.func60, Tryd.ntmps60
    go_wp2_with (go_at_call 44; refine HCP.out.mono ?_; rintro e w1 ⟨g, hg, rfl, hO, K1⟩; refine Hid.out ?_)
    refine Lib.hid ?_
    have HLW := Lib.hid (fun C => lower_any g T.length C r T w1 hO HLT.out (Nat.le_refl _) (by omega) hr32)
    clear hO
    go_wp2_with (go_at_call 75; refine (HLW.out _).mono ?_; rintro e w2 ⟨rfl, P, hP, hPL, hPl, _, hPv, hon⟩; refine Hid.out ?_)
    refine Lib.hid ?_
    have HP := Lib.hid hP
    have HPL := Lib.hid hPL
    have HPl := Lib.hid hPl
    rw [List.take_length, List.take_of_length_le (by rw [hPl]; exact Nat.le_refl _)] at hPv
    have HPv := Lib.hid hPv
    have K2 : Kp w w2 := hon.kp K1 hg
    have HTR := Lib.hid (ntrim_of (some ⟨g, 0, none⟩) T.length T.length P w2 hPl (Nat.le_refl _) (by unfold maxLen; omega) hP.sl)
    clear hP hPL hPl hPv hon
    go_wp2_with (go_at_call 40; refine HTR.out.mono ?_; rintro e w3 ⟨rfl, rfl⟩)
    go_ret
    exact ⟨_, rfl, HP.out.mag HPL.out _ _ HPv.out (by rw [HPl.out]; exact Nat.le_refl _) (by unfold maxLen; omega), K2, fun _ => HP.out.row HPL.out hg HPl.out HPv.out (by unfold maxLen; omega)⟩
  · rw [List.drop_of_length_le (by omega)]
    have hz : val ([] : List Nat) / 2 ^ r = 0 := Nat.zero_div _
    rw [hz, toL_zero]
    clear a3 a4
    go_enter Tryd.func60, Tryd.ntmps60
    go_wp2
    go_ret
    exact ⟨_, rfl, ⟨none, 0, rfl, Nat.le_refl _, Nat.zero_le _, Limbs.nil, fun h => absurd rfl h⟩, Below.refl _ _, fun h => absurd rfl h⟩

theorem lowered_any {w : World} {a : Value} {m : Nat} (ha : M w a m) {k : Nat} (hs : Sz k m) (hk : k ≤ 549755813888) (d : Nat) (hd : d ≤ 9223372036854775808) :
    Calls Tryd.prog 60 #[a, .int .u64 (d : Nat)] w fun e w' => ∃ v', e = .returned v' ∧ M w' v' (m / 2 ^ d) ∧ Kp w w' ∧ (m / 2 ^ d ≠ 0 → Row w' w.heap.size v' (m / 2 ^ d)) := by
  have := lowered_core a _ d w ha (Nat.le_trans hs hk) hd
  rw [val_toL] at this
  exact this

set_option maxRecDepth 20000 in
theorem shift_down_core (a : Value) (X : List Nat) (d : Nat) (w : World) (ha : Rd w a X) (hl : X.length ≤ 549755813888) (hd : 0 < d) (hd2 : d ≤ 9223372036854775808) :
    Calls Tryd.prog 33 #[a, .int .i64 (-(d : Int))] w fun e w' => ∃ v', e = .returned (.tuple #[v', .int .i64 0]) ∧ Rd w' v' (toL (val X / 2 ^ d)) ∧ Kp w w' := by
  have HR := Lib.hid (lowered_core a X d w ha hl hd2)
  have hw := neg_wrap hd2
  have hd0 : ((d : Int) == 0) = false := beq_eq_false_iff_ne.2 (by omega)
  go_enter Tryd.func33, Tryd.ntmps33
  go_wp2_with (go_at_call 60; refine HR.out.mono ?_; rintro e w1 ⟨v1, rfl, h1, K1, _⟩)
  go_ret2
  exact ⟨_, rfl, h1, K1⟩
end Go.Proofs.YtijadodleiiomaaDoor
