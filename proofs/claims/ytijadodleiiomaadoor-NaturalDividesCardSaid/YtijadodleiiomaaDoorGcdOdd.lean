/-
  natural.gcdOdd: by walking its text.
-/
import Derived.Test.YtijadodleiiomaaDoorLessen
import Derived.Deep.LoopGhost
namespace Go.Proofs.YtijadodleiiomaaDoor
open Go.RowKit

/-- Where the steps stand: two rows, the greater number first, with the greatest common divisor that is looked for. -/
def Stands (w0 wr : World) (G k : Nat) (va vb : Value) : Prop :=
  ∃ (ga gb A' B' : Nat), RowG wr ga va A' ∧ RowG wr gb vb B' ∧ ga ≠ gb ∧ w0.heap.size ≤ ga ∧ w0.heap.size ≤ gb ∧ B' ≤ A' ∧ 0 < A' ∧ (toL A').length ≤ 17179869184 ∧ A' + B' = k ∧ Nat.gcd A' B' = G

theorem Stands.start {w0 wr : World} {ga gb A' B' : Nat} {va vb : Value} (ha : RowG wr ga va A') (hb : RowG wr gb vb B') (hne : ga ≠ gb) (h1 : w0.heap.size ≤ ga) (h2 : w0.heap.size ≤ gb) (h3 : B' ≤ A') (h4 : 0 < A') (h5 : (toL A').length ≤ 17179869184) :
    Stands w0 wr (Nat.gcd A' B') (A' + B') va vb := ⟨ga, gb, A', B', ha, hb, hne, h1, h2, h3, h4, h5, rfl, rfl⟩

theorem Stands.next {w0 wr : World} {G ga gb A' B' : Nat} {va vb : Value} (ha : RowG wr ga va A') (hb : RowG wr gb vb B') (hne : ga ≠ gb) (h1 : w0.heap.size ≤ ga) (h2 : w0.heap.size ≤ gb) (h3 : B' ≤ A') (h4 : 0 < A') (h5 : (toL A').length ≤ 17179869184) (hG : Nat.gcd A' B' = G) :
    Stands w0 wr G (A' + B') va vb := hG ▸ Stands.start ha hb hne h1 h2 h3 h4 h5

theorem RowG.lit {w : World} {g : Nat} {v : Value} {n : Nat} (h : RowG w g v n) : ∃ c, v = .slice (some ⟨g, 0, none⟩) (toL n).length c ∧ (0 < (toL n).length → w.cell? ⟨g, 0, none⟩ = some (.int .u32 ((toL n).getD 0 0 : Nat))) := by
  obtain ⟨P, cap, rfl, h1, h2, h3, h4, h5, h6⟩ := h
  refine ⟨cap, rfl, fun h0 => ?_⟩
  have e := getD_take P (toL n).length 0 h0
  rw [h6] at e
  rw [e]
  exact h1.cell 0 (by omega)

theorem toL_one_limb {n : Nat} (h : (toL n).length = 1) : (toL n).getD 0 0 = n := by
  have h1 := val_toL n
  match hx : toL n, h with
  | [x], _ =>
    rw [hx] at h1
    simpa [val] using h1

theorem lt_two {n : Nat} (h : (toL n).length ≤ 2) : n < 18446744073709551616 := by
  have h1 := toL_lt n
  have h2 := Nat.pow_le_pow_right (show 0 < 4294967296 by omega) h
  omega

set_option maxRecDepth 20000 in
set_option maxHeartbeats 1000000 in
theorem gcdOdd_core (w0 w : World) (ga gb : Nat) (a b : Value) (A B : Nat) (ha : RowG w ga a A) (hb : RowG w gb b B) (hk : Kp w0 w) (h1 : w0.heap.size ≤ ga) (h2 : w0.heap.size ≤ gb) (hne : ga ≠ gb)
    (hlA : (toL A).length ≤ 17179869184) (hlB : (toL B).length ≤ 17179869184) (hA : 0 < A) (hB : 0 < B) (hT : Tz w0) :
    Calls Tryd.prog 59 #[a, b] w fun e w' => ∃ v, e = .returned v ∧ M w' v (Nat.gcd A B) ∧ Kp w0 w' := by
  have HC := Lib.hid (cmp_any a b _ _ w ha.m hb.m)
  rw [val_toL, val_toL] at HC
  obtain ⟨G, hG⟩ : ∃ G, G = Nat.gcd A B := ⟨_, rfl⟩
  obtain ⟨cv, hcv⟩ : ∃ cv, cv = cmpv A B := ⟨_, rfl⟩
  rw [← hcv] at HC
  rw [← hG]
  have hst : ∀ w1, Kp w w1 → (cv < 0 → Stands w0 w1 G (A + B) b a) ∧ (¬ cv < 0 → Stands w0 w1 G (A + B) a b) := by
    intro w1 k
    constructor
    · intro h
      have hlt : A < B := by
        rcases Nat.lt_or_ge A B with h3 | h3
        · exact h3
        · rw [hcv] at h
          unfold cmpv at h
          rw [if_neg (by omega)] at h
          split at h <;> omega
      have := Stands.start (hb.kp k) (ha.kp k) (Ne.symm hne) h2 h1 (by omega) hB hlB
      rwa [Nat.gcd_comm, ← hG, Nat.add_comm] at this
    · intro h
      have hge : B ≤ A := by
        rcases Nat.lt_or_ge A B with h3 | h3
        · rw [hcv, cmpv_lt h3] at h
          omega
        · exact h3
      have := Stands.start (ha.kp k) (hb.kp k) hne h1 h2 hge hA hlA
      rwa [← hG] at this
  have HST := Lib.hid hst
  have HK := Lib.hid hk
  have HT := Lib.hid hT
  clear hst hk hT hcv hG ha hb hA hB hlA hlB
  by_cases hc : cv < 0
  all_goals
    go_enter Tryd.func59, Tryd.ntmps59
    go_wp2_with (go_at_call 16; refine HC.out.mono ?_; rintro e w1 ⟨rfl, K1⟩; refine Hid.out ?_)
    refine Lib.hid ?_
    have HS1 := Lib.hid (HST.out w1 K1)
    have HK1 := Lib.hid (HK.out.tr K1)
    clear K1
    go_wp2_with fail
    go_loopg [0, 1] (A + B) (fun k av bv wr => Hid (Stands w0 wr G k av bv) ∧ Hid (Kp w0 wr))
    case atStart => exact ⟨Lib.hid (by first | exact HS1.out.1 hc | exact HS1.out.2 hc), HK1⟩
    case round =>
      obtain ⟨HST1, HK2⟩ := hrel
      obtain ⟨ga', gb', A', B', ha', hb', hne', h1', h2', hBA, hA0, hl', hk', hG'⟩ := HST1.out
      have HMA := ha'.m
      have HMB := hb'.m
      obtain ⟨ca, rfl, _⟩ := ha'.lit
      obtain ⟨cb, rfl, hb0⟩ := hb'.lit
      have hla := length_mono _ _ hBA
      have HRA := Lib.hid ha'
      have HRB := Lib.hid hb'
      have HGG := Lib.hid hG'
      have hT1 := Lib.hid (HT.out.kp HK2.out)
      have hlb1 := @toL_one_limb B'
      have hlt2 := @lt_two A'
      obtain ⟨la, hla'⟩ : ∃ l, l = (toL A').length := ⟨_, rfl⟩
      obtain ⟨lb, hlb'⟩ : ∃ l, l = (toL B').length := ⟨_, rfl⟩
      have HSA := Lib.hid (fun (h : la ≤ 2) => small_any _ _ wr HMA (by rw [← hla']; exact h))
      have HSB := Lib.hid (fun (h : lb ≤ 2) => small_any _ _ wr HMB (by rw [← hlb']; exact h))
      rw [val_toL] at HSA HSB
      have HMA := Lib.hid HMA
      have HMB := Lib.hid HMB
      rw [← hla'] at HRA HMA HSA hl' hla hlt2 ⊢
      rw [← hlb'] at HRB HMB HSB hla hb0 hlb1 ⊢
      have hb00 : lb = 0 → B' = 0 := by
        intro h
        have := (toL_nil_iff B').1 (List.length_eq_zero_iff.1 (hlb' ▸ h))
        exact this
      have hbpos : 0 < lb → 0 < B' := by
        intro h
        rcases Nat.eq_zero_or_pos B' with h0 | h0
        · rw [hlb', h0, toL_zero] at h
          exact absurd h (by simp)
        · exact h0
      have HLA := Lib.hid hla'
      have HKK := Lib.hid hk'
      clear HST1 ha' hb' hG' hla' hlb' hk'
      by_cases h3 : 2 < la
      · by_cases h4 : 0 < lb
        · obtain ⟨x, hx⟩ : ∃ x, x = (toL B').getD 0 0 := ⟨_, rfl⟩
          have hcell := hb0 h4
          rw [← hx] at hcell hlb1
          by_cases h5 : lb = 1
          · by_cases h6 : x = 1
            · have hB1 : B' = 1 := by rw [← hlb1 h5]; exact h6
              have hG1 : G = 1 := by rw [← HGG.out, hB1]; exact Nat.gcd_one_right _
              have HR := Lib.hid (show M wr (.slice (some ⟨gb', 0, none⟩) lb cb) G by rw [hG1]; rw [hB1] at HMB; exact HMB.out)
              subst h5 h6
              clear hlb1 hb00 hb0 hlt2 hx HSA HSB
              go_wp2
              go_ret
              exact ⟨_, rfl, HR.out, HK2.out⟩
            · subst h5
              have h6i : ((x : Int) == 1) = false := beq_eq_false_iff_ne.2 (by omega)
              have HL := Lib.hid (lessen_any w0 wr ga' gb' _ _ A' B' HRA.out HRB.out HK2.out h1' h2' hne' (by rw [← HLA.out]; exact h3) (by rw [← HLA.out]; exact hl') hBA (hbpos h4) hT1.out)
              clear hlb1 hb00 hb0 hlt2 hx HSA HSB hbpos
              go_wp2_with (go_at_call 77; (with_reducible refine HL.out.mono ?_); rintro e w5 ⟨va, vb, rfl, hLs, K5⟩; refine Hid.out ?_)
              refine Lib.hid ?_
              obtain ⟨g1, g2, A2, B2, e1, e2, e3, e4, e5, e6, e7, e8, e9, e10⟩ := hLs
              have HN := Lib.hid (Stands.next e1 e2 e3 e4 e5 e6 e8 (Nat.le_trans (length_mono _ _ e7) (by rw [← HLA.out]; exact hl')) (e10.trans HGG.out))
              have HK5 := Lib.hid K5
              have HE9 := Lib.hid e9
              clear e1 e2 e3 e4 e5 e6 e7 e8 e9 e10 K5
              go_wp2_with fail
              go_roundg (A2 + B2)
              case measure => exact Nat.lt_of_lt_of_le HE9.out (Nat.le_of_eq HKK.out)
              case rel => exact ⟨HN, HK5⟩
          · have h5i : ((lb : Int) == 1) = false := beq_eq_false_iff_ne.2 (by omega)
            have HL := Lib.hid (lessen_any w0 wr ga' gb' _ _ A' B' HRA.out HRB.out HK2.out h1' h2' hne' (by rw [← HLA.out]; exact h3) (by rw [← HLA.out]; exact hl') hBA (hbpos h4) hT1.out)
            clear hlb1 hb00 hb0 hlt2 hx HSA HSB hbpos
            go_wp2_with (go_at_call 77; (with_reducible refine HL.out.mono ?_); rintro e w5 ⟨va, vb, rfl, hLs, K5⟩; refine Hid.out ?_)
            refine Lib.hid ?_
            obtain ⟨g1, g2, A2, B2, e1, e2, e3, e4, e5, e6, e7, e8, e9, e10⟩ := hLs
            have HN := Lib.hid (Stands.next e1 e2 e3 e4 e5 e6 e8 (Nat.le_trans (length_mono _ _ e7) (by rw [← HLA.out]; exact hl')) (e10.trans HGG.out))
            have HK5 := Lib.hid K5
            have HE9 := Lib.hid e9
            clear e1 e2 e3 e4 e5 e6 e7 e8 e9 e10 K5
            go_wp2_with fail
            go_roundg (A2 + B2)
            case measure => exact Nat.lt_of_lt_of_le HE9.out (Nat.le_of_eq HKK.out)
            case rel => exact ⟨HN, HK5⟩
        · have h40 : lb = 0 := by omega
          have hG1 : G = A' := by rw [← HGG.out, hb00 h40]; exact Nat.gcd_zero_right _
          have HR := Lib.hid (show M wr (.slice (some ⟨ga', 0, none⟩) la ca) G by rw [hG1]; exact HMA.out)
          subst h40
          clear hlb1 hb00 hb0 hlt2 HSA HSB hG1 hbpos
          go_wp2
          go_ret
          exact ⟨_, rfl, HR.out, HK2.out⟩
      · have HA2 := HSA.out (by omega)
        have HB2 := HSB.out (by omega)
        have HSA2 := Lib.hid HA2
        have HSB2 := Lib.hid HB2
        have hAlt := hlt2 (by omega)
        have HGS := Lib.hid (gcdSmall_any A' B' hAlt (by omega) (by omega) wr hT1.out)
        rw [HGG.out] at HGS
        have hGlt : G < 18446744073709551616 := by
          rw [← HGG.out]
          exact Nat.lt_of_le_of_lt (Nat.le_of_dvd hA0 (Nat.gcd_dvd_left _ _)) hAlt
        have HOF := Lib.hid (fun w' => of_any G w' hGlt)
        clear HA2 HB2 hlb1 hb00 hb0 hlt2 HSA HSB hbpos
        go_wp2_with (first
          | (go_at_call 46; first | ((with_reducible refine HSA2.out.mono ?_); rintro e w5 ⟨rfl, rfl⟩) | ((with_reducible refine HSB2.out.mono ?_); rintro e w5 ⟨rfl, rfl⟩))
          | (go_at_call 57; (with_reducible refine HGS.out.mono ?_); rintro e w6 ⟨rfl, K6⟩; refine Hid.out ?_))
        refine Lib.hid ?_
        go_wp2_with (go_at_call 21; (with_reducible refine (HOF.out _).mono ?_); rintro e w7 ⟨v7, rfl, h7, K7⟩; refine Hid.out ?_)
        refine Lib.hid ?_
        go_wp2
        go_ret
        exact ⟨_, rfl, h7, (HK2.out.tr K6).tr K7⟩
end Go.Proofs.YtijadodleiiomaaDoor
