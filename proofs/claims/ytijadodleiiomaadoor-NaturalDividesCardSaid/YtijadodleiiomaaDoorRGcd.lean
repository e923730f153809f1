/-
  brepkernelref01.Gcd: by walking its text.
-/
import Derived.Test.YtijadodleiiomaaDoorRDiv2
namespace Go.Proofs.YtijadodleiiomaaDoor
open Go.RowKit

theorem rsmall_any {w : World} {v : Value} {n : Nat} (h : M w v n) :
    Calls Tryd.prog 51 #[v] w fun e w' => ∃ x : Nat, ∃ ok : Bool, e = .returned (.tuple #[.int .u64 (x : Nat), .bool ok]) ∧ Kp w w' := by
  by_cases h2 : (toL n).length ≤ 2
  · refine (rsmall_yes h h2).mono ?_
    rintro e w' ⟨he, k⟩
    exact ⟨n, true, he, k⟩
  · refine (rsmall_no h (by omega)).mono ?_
    rintro e w' ⟨he, rfl⟩
    exact ⟨0, false, he, Below.refl _ _⟩

/-- Where Euclid's algorithm stands. -/
def Eucl (w0 wr : World) (G L k : Nat) (va vb : Value) : Prop := ∃ A' : Nat, M wr va A' ∧ M wr vb k ∧ Nat.gcd A' k = G ∧ (toL A').length ≤ L ∧ (toL k).length ≤ L ∧ Kp w0 wr

set_option maxRecDepth 20000 in
set_option maxHeartbeats 1000000 in
theorem rgcd_any {w : World} {a b : Value} {A B : Nat} (ha : M w a A) (hb : M w b B) (hlA : (toL A).length ≤ 1073741824) (hlB : (toL B).length ≤ 1073741824) :
    Calls Tryd.prog 32 #[a, b] w fun e w' => ∃ v, e = .returned v ∧ M w' v (Nat.gcd A B) ∧ Kp w w' := by
  have HTA := Lib.hid (rtrim_m ha (by omega))
  have HTB := Lib.hid (fun w' (k : Kp w w') => rtrim_m (hb.kp k) (by omega))
  obtain ⟨G, hG⟩ : ∃ G, G = Nat.gcd A B := ⟨_, rfl⟩
  rw [← hG]
  have HG := Lib.hid hG
  clear hG ha hb
  go_enter Tryd.func32, Tryd.ntmps32
  go_wp2_with (go_at_call 39; (with_reducible refine HTA.out.mono ?_); rintro e w1 ⟨va, rfl, mva, K1⟩; refine Hid.out ?_)
  refine Lib.hid ?_
  have HTB1 := Lib.hid (HTB.out w1 K1)
  have MVA := Lib.hid mva
  clear mva
  go_wp2_with (go_at_call 39; (with_reducible refine HTB1.out.mono ?_); rintro e w2 ⟨vb, rfl, mvb, K2⟩; refine Hid.out ?_)
  refine Lib.hid ?_
  have HST : Hid (Eucl w w2 G 1073741824 B va vb) := Lib.hid ⟨A, MVA.out.kp K2, mvb, HG.out.symm, hlA, hlB, K1.tr K2⟩
  clear mvb K1 K2
  go_wp2_with fail
  go_loopg [0, 1] B (fun k av bv wr => Hid (Eucl w wr G 1073741824 k av bv))
  case atStart => exact HST
  case round =>
    obtain ⟨A', mA, mB, hg, hla, hlb, K3⟩ := hrel.out
    obtain ⟨bo, bc, rfl, b1, b2, b3, b4⟩ := id mB
    obtain ⟨ao, ac, rfl, a1, a2, a3, a4⟩ := id mA
    unfold maxLen at b2 a2
    have HMA := Lib.hid mA
    have HMB := Lib.hid mB
    have HGG := Lib.hid hg
    have HK3 := Lib.hid K3
    have hz : (toL gk).length = 0 → gk = 0 := fun h => (toL_nil_iff gk).1 (List.length_eq_zero_iff.1 h)
    obtain ⟨lb, hlb'⟩ : ∃ l, l = (toL gk).length := ⟨_, rfl⟩
    have HLB := Lib.hid hlb'
    obtain ⟨la, hla'⟩ : ∃ l, l = (toL A').length := ⟨_, rfl⟩
    have HLA := Lib.hid hla'
    rw [← hlb'] at b1 hz HMB hlb ⊢
    rw [← hla'] at a1 HMA hla ⊢
    clear hrel mA mB hg b3 b4 a3 a4 K3 hlb' hla'
    by_cases h0 : lb = 0
    · have hgk := hz h0
      have hGA : G = A' := by rw [← HGG.out, hgk]; exact Nat.gcd_zero_right _
      have HR := Lib.hid (show M wr (.slice ao la ac) G by rw [hGA]; exact HMA.out)
      subst h0
      clear hz hgk hGA
      go_wp2
      go_ret
      exact ⟨_, rfl, HR.out, HK3.out⟩
    · have hgk0 : gk ≠ 0 := by
        intro e
        apply h0
        rw [HLB.out, e, toL_zero]
        rfl
      have HGK := Lib.hid hgk0
      clear hz
      by_cases h1 : la ≤ 2
      · by_cases h2 : lb ≤ 2
        · have HSA := Lib.hid (rsmall_yes HMA.out (by rw [← HLA.out]; exact h1))
          have HSB := Lib.hid (fun w' (k : Kp wr w') => rsmall_yes (HMB.out.kp k) (by rw [← HLB.out]; exact h2))
          have hAlt := lt_two (n := A') (by rw [← HLA.out]; exact h1)
          have hBlt := lt_two (n := gk) (by rw [← HLB.out]; exact h2)
          clear hgk0 h1 hla
          go_wp2_with (go_at_call 51; (with_reducible refine HSA.out.mono ?_); rintro e w4 ⟨rfl, K4⟩; refine Hid.out ?_)
          refine Lib.hid ?_
          have HSB1 := Lib.hid (HSB.out w4 K4)
          go_wp2_with (go_at_call 51; (with_reducible refine HSB1.out.mono ?_); rintro e w5 ⟨rfl, K5⟩; refine Hid.out ?_)
          refine Lib.hid ?_
          have HK5 := Lib.hid (HK3.out.tr (K4.tr K5))
          clear K4 K5
          go_wp2_with fail
          go_loopw [5, 7] (fun xv yv wr => ∃ x y : Nat, xv = .int .u64 x ∧ yv = .int .u64 y ∧ x < 18446744073709551616 ∧ y < 18446744073709551616 ∧ Hid (Nat.gcd x y = G) ∧ Hid (Kp w wr)) (fun _ yv _ => (intOf yv).toNat)
          case atStart => exact ⟨A', gk, rfl, rfl, hAlt, hBlt, HGG, HK5⟩
          case round =>
            obtain ⟨x, y, rfl, rfl, hx, hy, HXY, HK6⟩ := hrel
            by_cases hy0 : y = 0
            · have hGx : G = x := by rw [← HXY.out, hy0]; exact Nat.gcd_zero_right _
              have HOF := Lib.hid (rof_any x wr hx)
              rw [← hGx] at HOF
              have HXG := Lib.hid hGx
              subst hy0
              subst hGx
              go_wp2_with (go_at_call 22; (with_reducible refine HOF.out.mono ?_); rintro e w7 ⟨v7, rfl, h7, K7⟩; refine Hid.out ?_)
              refine Lib.hid ?_
              go_wp2
              go_ret
              exact ⟨_, rfl, h7, HK6.out.tr K7⟩
            · have hyi : ((y : Int) != 0) = true := by rw [bne_iff_ne]; omega
              obtain ⟨r, hr⟩ : ∃ r, r = x % y := ⟨_, rfl⟩
              have hry : r < y := by rw [hr]; exact Nat.mod_lt _ (by omega)
              have htm : (x : Int).tmod (y : Int) = (r : Int) := by rw [hr]; rfl
              have hrw : IntKind.u64.wrap (r : Int) = (r : Int) := IntWalk.u64_in _ (by omega)
              have HN := Lib.hid (show Nat.gcd y r = G by rw [hr, ← HXY.out, Nat.gcd_comm x, Nat.gcd_rec y x, Nat.gcd_comm])
              clear hr
              go_wp2
              go_quiet (fail)
              go_wp2
              go_roundw
              case rel => exact ⟨y, r, rfl, rfl, hy, by omega, HN, Lib.hid (HK6.out.drewN _)⟩
              case measure => simp [intOf]; omega
        · have HSA := Lib.hid (rsmall_yes HMA.out (by rw [← HLA.out]; exact h1))
          have HSB := Lib.hid (fun w' (k : Kp wr w') => rsmall_no (HMB.out.kp k) (by rw [← HLB.out]; omega))
          have HDV := Lib.hid (fun w' (k : Kp wr w') => rdiv_any (HMA.out.kp k) (HMB.out.kp k) (by rw [← HLA.out]; exact hla) hgk0)
          clear hgk0 h1
          go_wp2_with (go_at_call 51; (with_reducible refine HSA.out.mono ?_); rintro e w4 ⟨rfl, K4⟩; refine Hid.out ?_)
          refine Lib.hid ?_
          have HSB1 := Lib.hid (HSB.out w4 K4)
          have HDV1 := Lib.hid (HDV.out w4 K4)
          go_wp2_with (first
            | (go_at_call 51; (with_reducible refine HSB1.out.mono ?_); rintro e w5 ⟨rfl, rfl⟩)
            | (go_at_call 30; (with_reducible refine HDV1.out.mono ?_); rintro e w6 ⟨q6, r6, rfl, _, hr6, K6⟩; refine Hid.out ?_))
          refine Lib.hid ?_
          have HN : Hid (Eucl w w6 G 1073741824 (A' % gk) (.slice bo lb bc) r6) := Lib.hid ⟨gk, HMB.out.kp (K4.tr K6), hr6, by rw [← HGG.out, Nat.gcd_comm A', Nat.gcd_rec gk A', Nat.gcd_comm], by rw [← HLB.out]; exact hlb, Nat.le_trans (length_mono _ _ (Nat.mod_le _ _)) (by rw [← HLA.out]; exact hla), HK3.out.tr (K4.tr K6)⟩
          clear K4 K6 hr6
          go_wp2_with fail
          go_roundg (A' % gk)
          case measure => exact Nat.mod_lt _ (Nat.pos_of_ne_zero HGK.out)
          case rel => exact HN
      · have HSA := Lib.hid (rsmall_no HMA.out (by rw [← HLA.out]; omega))
        have HSB := Lib.hid (rsmall_any HMB.out)
        have HDV := Lib.hid (fun w' (k : Kp wr w') => rdiv_any (HMA.out.kp k) (HMB.out.kp k) (by rw [← HLA.out]; exact hla) hgk0)
        clear hgk0 h1
        go_wp2_with (go_at_call 51; first
          | ((with_reducible refine HSA.out.mono ?_); rintro e w4 ⟨rfl, rfl⟩)
          | ((with_reducible refine HSB.out.mono ?_); rintro e w5 ⟨x5, ok5, rfl, K5⟩; refine Hid.out ?_))
        refine Lib.hid ?_
        have HDV1 := Lib.hid (HDV.out w5 K5)
        go_wp2_with (go_at_call 30; (with_reducible refine HDV1.out.mono ?_); rintro e w6 ⟨q6, r6, rfl, _, hr6, K6⟩; refine Hid.out ?_)
        refine Lib.hid ?_
        have HN : Hid (Eucl w w6 G 1073741824 (A' % gk) (.slice bo lb bc) r6) := Lib.hid ⟨gk, HMB.out.kp (K5.tr K6), hr6, by rw [← HGG.out, Nat.gcd_comm A', Nat.gcd_rec gk A', Nat.gcd_comm], by rw [← HLB.out]; exact hlb, Nat.le_trans (length_mono _ _ (Nat.mod_le _ _)) (by rw [← HLA.out]; exact hla), HK3.out.tr (K5.tr K6)⟩
        clear K5 K6 hr6
        go_wp2_with fail
        go_roundg (A' % gk)
        case measure => exact Nat.mod_lt _ (Nat.pos_of_ne_zero HGK.out)
        case rel => exact HN
end Go.Proofs.YtijadodleiiomaaDoor
