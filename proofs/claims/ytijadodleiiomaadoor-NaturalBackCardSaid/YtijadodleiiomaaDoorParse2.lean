/-
  natural.appendLimb, Parse: by walking their texts.
-/
import Derived.Test.YtijadodleiiomaaDoorParse
namespace Go.Proofs.YtijadodleiiomaaDoor
open Go.RowKit

theorem scale_step {O X : List Nat} {j c x s p : Nat} (hk : j < O.length) (hv : val (O.take j) + 4294967296 ^ j * c = val (X.take j) * s + p) (hx : x = X.getD j 0) :
    val ((O.set j ((c + x * s) % 4294967296)).take (j + 1)) + 4294967296 ^ (j + 1) * ((c + x * s) / 4294967296) = val (X.take (j + 1)) * s + p := by
  rw [val_set_take _ _ _ hk, val_take_next X, ← hx, powB j, Nat.mul_assoc, Nat.add_mul]
  have e : 4294967296 ^ j * ((c + x * s) % 4294967296) + 4294967296 ^ j * (4294967296 * ((c + x * s) / 4294967296)) = 4294967296 ^ j * c + 4294967296 ^ j * x * s := by
    rw [← Nat.mul_add, Nat.mod_add_div, Nat.mul_add, Nat.mul_assoc]
  omega

theorem cells_set (O : List Nat) (j d : Nat) : (cellsOf O).set j (.int .u32 (d : Nat)) = cellsOf (O.set j d) := by
  simp [cellsOf, List.map_set, limb]

theorem owns_set {w : World} {B : Nat} {e : TypeId} {g cap n : Nat} {O : List Nat} (h : w.ownsRow B e 1 (.slice (some ⟨g, 0, none⟩) n cap) n (cellsOf O)) (j d : Nat) :
    (w.setCell ⟨g, j, none⟩ (.int .u32 (d : Nat))).ownsRow B e 1 (.slice (some ⟨g, 0, none⟩) n cap) n (cellsOf (O.set j d)) := by
  have := (h.stored j (.int .u32 (d : Nat))).1
  rwa [cells_set] at this

set_option maxHeartbeats 2000000 in
theorem appendLimb_core (B g cap p : Nat) (X : List Nat) (w : World) (hB : B ≤ g) (hBw : B ≤ w.heap.size) (hown : w.ownsRow B 45 1 (.slice (some ⟨g, 0, none⟩) X.length cap) X.length (cellsOf X)) (hX : Limbs X)
    (hl : X.length ≤ 549755813888) (hp : p < 1000000000) :
    Calls Tryd.prog 62 #[.slice (some ⟨g, 0, none⟩) X.length cap, .int .u32 1000000000, .int .u32 (p : Nat)] w fun e w' => ∃ g' c' O, e = .returned (.slice (some ⟨g', 0, none⟩) O.length c') ∧ B ≤ g' ∧
      w'.ownsRow B 45 1 (.slice (some ⟨g', 0, none⟩) O.length c') O.length (cellsOf O) ∧ Limbs O ∧ val O = val X * 1000000000 + p ∧ (O.length = X.length ∨ O.length = X.length + 1 ∧ 4294967296 ^ X.length ≤ val O) ∧ Below B w w' := by
  obtain ⟨i0, hi, hz0, hz1, hz2⟩ := info_parts infoU32
  have HOW := Lib.hid hown
  have HX := Lib.hid hX
  clear hown hX
  go_enter Tryd.func62, Tryd.ntmps62
  go_wp2
  go_loopw [7, 14] (fun cv i wr => ∃ (j c : Nat) (O : List Nat), j ≤ X.length ∧ i = .int .i64 j ∧ cv = .int .u64 c ∧ c < 1000000000 ∧ wr.ownsRow B 45 1 (.slice (some ⟨g, 0, none⟩) X.length cap) X.length (cellsOf O) ∧ O.length = X.length ∧ Limbs O ∧ O.drop j = X.drop j ∧
    val (O.take j) + 4294967296 ^ j * c = val (X.take j) * 1000000000 + p ∧ Below B w wr ∧ B ≤ wr.heap.size) (fun _ i _ => X.length - (intOf i).toNat)
  case atStart => exact ⟨0, p, X, Nat.zero_le _, rfl, rfl, hp, HOW.out, rfl, HX.out, rfl, by simp [val], Below.refl _ _, hBw⟩
  case round =>
    obtain ⟨j, c, O, hj, rfl, rfl, hc, hO, hOl, hOL, hOd, hv, K1, hsz⟩ := hrel
    have HO := Lib.hid hO
    have HOl := Lib.hid hOl
    have HOL := Lib.hid hOL
    have HOd := Lib.hid hOd
    have HV := Lib.hid hv
    clear hO hOl hOL hOd hv
    by_cases hj1 : j < X.length
    · obtain ⟨x, hcell, hx, HXx⟩ := owns_at HO.out HOL.out j hj1
      have hfz := HO.out.frozenAt j
      have HXX := Lib.hid (show x = X.getD j 0 by rw [HXx.out, drop_getD HOd.out])
      have hb : x * 1000000000 < 4294967296000000000 := by omega
      go_wp2
      go_roundw
      case rel => exact ⟨j + 1, (c + x * 1000000000) / 4294967296, O.set j ((c + x * 1000000000) % 4294967296), by omega, by go_num, by go_num, by omega, owns_set HO.out j _, by rw [List.length_set]; exact HOl.out, HOL.out.set _ _ (Nat.mod_lt _ (by omega)), drop_next HOd.out _, scale_step (by rw [HOl.out]; exact hj1) HV.out HXX.out, K1.setCell hB _, by simp [World.setCell]; exact hsz⟩
      case measure => simp [intOf]; omega
    · obtain rfl : j = X.length := by omega
      by_cases hc0 : c = 0
      · subst hc0
        have hcb : (((0 : Nat) : Int) == 0) = true := rfl
        have hvv : val O = val X * 1000000000 + p := by
          have := HV.out
          rwa [Nat.mul_zero, Nat.add_zero, List.take_of_length_le (by rw [HOl.out]; exact Nat.le_refl _), List.take_of_length_le (Nat.le_refl X.length)] at this
        have HVV := Lib.hid hvv
        clear hvv
        go_wp2
        go_ret
        exact ⟨g, cap, O, ret_slice HOl.out.symm, hB, by rw [HOl.out]; exact HO.out, HOL.out, HVV.out, Or.inl HOl.out, K1⟩
      · have hcb : (((c : Nat) : Int) == 0) = false := beq_eq_false_iff_ne.2 (by omega)
        have hvv : val (O ++ [c]) = val X * 1000000000 + p := by
          have := HV.out
          rw [List.take_of_length_le (by rw [HOl.out]; exact Nat.le_refl _), List.take_of_length_le (Nat.le_refl X.length)] at this
          rw [val_snoc, HOl.out, this]
        have hge : 4294967296 ^ X.length ≤ val (O ++ [c]) := by
          rw [val_snoc, HOl.out]
          have := Nat.mul_le_mul_left (4294967296 ^ X.length) (show 1 ≤ c by omega)
          omega
        have HVV := Lib.hid hvv
        have HGE := Lib.hid hge
        have HO2 := Lib.hid (HO.out.alloc (.cells #[.int .u32 (c : Int)] 45))
        have HSRC := Lib.hid (src_one wr 45 c)
        clear hvv hge hc0
        go_wp2_with (at_builtin; refine wpList_append_src _ rfl (.tmp 37) (.tmp 40) 22 rfl B 45 i0 (.int .u32 0) 1 4 undU32s hi hz0 hz1 hz2 rfl (by decide) (.slice (some ⟨g, 0, none⟩) X.length cap) X.length (cellsOf O) rfl HO2.out (some ⟨wr.heap.size, 0, none⟩) 1 1 (cellsOf [c]) rfl rfl HSRC.out (cellsOf_one _) (by unfold maxLen; omega) (by omega) (by simp; omega) ?_; intro v' w3 hown' hg3 hiff; refine Hid.out ?_)
        refine Lib.hid ?_
        have K3 : Below B w w3 := (K1.alloc hsz _).grown hg3 (by simp; omega) (fun b hb => by simp [Value.ownBlock] at hb; omega)
        rw [cells_snoc] at hown'
        obtain ⟨g', c', rfl, hBg, _⟩ := owns_pos hown' (by omega)
        have HO3 := Lib.hid hown'
        clear hown' hg3 hiff
        have hlen : (O ++ [c]).length = X.length + 1 := by rw [List.length_append, HOl.out]; rfl
        have HLN := Lib.hid hlen
        clear hlen
        go_wp2
        go_ret
        exact ⟨g', c', O ++ [c], ret_slice HLN.out.symm, hBg, by rw [HLN.out]; exact HO3.out, HOL.out.append (Limbs.cons (by omega) Limbs.nil), HVV.out, Or.inr ⟨HLN.out, HGE.out⟩, K3⟩

/-- The same, of a magnitude. -/
theorem appendLimb_any (B g cap p n k : Nat) (w : World) (hk : k = (toL n).length) (hB : B ≤ g) (hBw : B ≤ w.heap.size) (hown : w.ownsRow B 45 1 (.slice (some ⟨g, 0, none⟩) k cap) k (cellsOf (toL n)))
    (hl : k ≤ 549755813888) (hp : p < 1000000000) :
    Calls Tryd.prog 62 #[.slice (some ⟨g, 0, none⟩) k cap, .int .u32 1000000000, .int .u32 (p : Nat)] w fun e w' => ∃ g' c' k', e = .returned (.slice (some ⟨g', 0, none⟩) k' c') ∧ B ≤ g' ∧
      w'.ownsRow B 45 1 (.slice (some ⟨g', 0, none⟩) k' c') k' (cellsOf (toL (n * 1000000000 + p))) ∧ k' = (toL (n * 1000000000 + p)).length ∧ Below B w w' := by
  subst hk
  refine (appendLimb_core B g cap p (toL n) w hB hBw hown (limbs_toL n) hl hp).mono ?_
  rintro e w' ⟨g', c', O, he, h1, h2, h3, h4, h5, h6⟩
  rw [val_toL] at h4
  have hO : O = toL (n * 1000000000 + p) := by
    apply eq_toL h3 h4
    rcases h5 with h5 | ⟨h5, h7⟩
    · rw [h5]; exact length_mono _ _ (by omega)
    · rw [h5]
      apply len_ge
      intro _
      rw [Nat.add_sub_cancel, ← h4]
      exact h7
  subst hO
  exact ⟨g', c', _, he, h1, h2, rfl, h6⟩
end Go.Proofs.YtijadodleiiomaaDoor
