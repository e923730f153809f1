/-
  brepkernelref01.byLimb: by walking its text.
-/
import Derived.Test.YtijadodleiiomaaDoorRShift
import Derived.Test.YtijadodleiiomaaDoorRefM
namespace Go.Proofs.YtijadodleiiomaaDoor
open Go.RowKit

theorem ret_pair {v : Value} {k : IntKind} {a b : Int} (h : a = b) : Ending.returned (.tuple #[v, .int k a]) = .returned (.tuple #[v, .int k b]) := by rw [h]

theorem owns_base {w : World} {B B' : Nat} {e : TypeId} {s : Nat} {v : Value} {n : Nat} {xs : List Value} (h : w.ownsRow B e s v n xs) (hb : B' ≤ B) : w.ownsRow B' e s v n xs := by
  refine ⟨h.1, ?_⟩
  rcases h.2 with h2 | ⟨g, cap, cur, hv, hb', r⟩
  · exact Or.inl h2
  · exact Or.inr ⟨g, cap, cur, hv, Nat.le_trans hb hb', r⟩

/-- Two owned rows of different element types lie in different blocks. -/
theorem owns_ne {w : World} {B B' : Nat} {e e' : TypeId} {s s' : Nat} {v v' : Value} {n n' : Nat} {xs xs' : List Value} (h : w.ownsRow B e s v n xs) (h' : w.ownsRow B' e' s' v' n' xs') (he : e ≠ e') (b : Nat) (hb : v.ownBlock = some b) : v'.ownBlock ≠ some b := by
  intro hb'
  rcases h.2 with ⟨rfl, _⟩ | ⟨g, cap, cur, rfl, _, hg, _⟩
  · cases hb
  · rcases h'.2 with ⟨rfl, _⟩ | ⟨g', cap', cur', rfl, _, hg', _⟩
    · cases hb'
    · simp only [Value.ownBlock, Option.some.injEq] at hb hb'
      subst hb
      subst hb'
      rw [hg] at hg'
      simp at hg'
      exact he hg'.2

theorem div_into {X P : List Nat} {j r d x : Nat} (hj : j < X.length) (hl : P.length = X.length) (hx : x = X.getD j 0) (h : val (X.drop (j + 1)) = val (P.drop (j + 1)) * d + r) :
    val (X.drop j) = val ((P.set j ((r * 4294967296 + x) / d)).drop j) * d + (r * 4294967296 + x) % d := by
  have e1 : X.drop j = x :: X.drop (j + 1) := by
    rw [List.drop_eq_getElem_cons hj, hx]
    simp [List.getD, hj]
  have e2 : (P.set j ((r * 4294967296 + x) / d)).drop j = ((r * 4294967296 + x) / d) :: P.drop (j + 1) := by
    rw [List.drop_eq_getElem_cons (by simp; omega), List.getElem_set_self, List.drop_set_of_lt (by omega)]
  rw [e1, e2]
  show x + 4294967296 * val (X.drop (j + 1)) = ((r * 4294967296 + x) / d + 4294967296 * val (P.drop (j + 1))) * d + _
  rw [h, Nat.add_mul, Nat.mul_add, Nat.mul_assoc]
  have := Nat.div_add_mod (r * 4294967296 + x) d
  rw [Nat.mul_comm] at this
  generalize val (P.drop (j + 1)) * d = a at *
  generalize (r * 4294967296 + x) / d * d = b at *
  omega

set_option maxHeartbeats 400000 in
theorem trim_own (v : Value) (xs : List Nat) (w : World) (hs : Rd w v xs) (hl : xs.length ≤ 1099511627776) :
    Calls Tryd.prog 39 #[v] w fun e w' => ∃ v' k, e = .returned v' ∧ w'.ownsRow w.heap.size 45 1 v' k (cellsOf (trimL xs)) ∧ Kp w w' := by
  obtain ⟨ao, cap, rfl, hc1, hm, hx, hs⟩ := hs
  unfold maxLen at hm
  obtain ⟨i0, hi, hz0, hz1, hz2⟩ := info_parts infoU32
  go_enter Tryd.func39, Tryd.ntmps39
  go_wp2
  go_loop [3] (fun i => ∃ k : Nat, k ≤ xs.length ∧ i = .int .i64 k ∧ trimL (xs.take k) = trimL xs) (fun i => (intOf i).toNat)
  case atStart => exact ⟨xs.length, Nat.le_refl _, rfl, by simp⟩
  case round =>
    obtain ⟨k, hk, rfl, ht⟩ := hrel
    have HT := Lib.hid ht
    have HX := Lib.hid hx
    clear ht hx
    by_cases hk0 : 0 < k
    · have hlen : (cellsOf (xs.take k)).length = k * 1 := by simp [cellsOf]; omega
      have hnews := ((hs.take k).kp (Kp.alloc w (Obj.cells #[] 45))).news
      have HLen := Lib.hid hlen
      obtain ⟨b, off, rfl, hc⟩ := hs.cell (by omega)
      have hcell := hc (k - 1) (by omega)
      have HN := Lib.hid hnews
      clear hc hs hlen hnews
      by_cases hz : xs.getD (k - 1) 0 = 0
      · have hzb : ((((xs[k - 1]?.getD 0 : Nat) : Int)) == 0) = true := by simpa [List.getD] using hz
        have HZ := Lib.hid hz
        clear hz
        go_wp2
        go_round
        case rel => exact ⟨k - 1, by omega, by go_num, by rw [← trimL_step xs k hk0 hk HZ.out]; exact HT.out⟩
        case measure => simp [intOf]; omega
      · have hzb : ((((xs[k - 1]?.getD 0 : Nat) : Int)) == 0) = false := by simpa [List.getD] using hz
        have HZ := Lib.hid (trimL_stop xs k hk0 hk hz)
        clear hz
        go_wp2_with (at_builtin; refine wpList_append_src _ rfl (.tmp 18) (.tmp 21) 22 rfl w.heap.size 45 i0 (.int .u32 0) 1 4 undU32s hi hz0 hz1 hz2 rfl (by decide) (.slice (some ⟨w.heap.size, 0, none⟩) 0 0) 0 [] rfl (World.ownsRow_made w #[] 0 (Nat.le_refl _) (Nat.zero_le _) rfl) _ k _ (cellsOf (xs.take k)) rfl HLen.out HN.out (cellsOf_one _) (by unfold maxLen; omega) (by omega) (by simp) ?_; intro v' w1 hown hg _)
        simp only [List.nil_append, Nat.zero_add] at hown
        have hr := hown
        rw [← HZ.out, HT.out] at hr
        go_wp2
        go_ret
        exact ⟨_, rfl, ⟨_, hr⟩, (Kp.alloc w _).grown hg (by simp) (by intro j hj; simp [Value.ownBlock] at hj; omega)⟩
    · obtain rfl : k = 0 := by omega
      have hnews : Src (w.alloc (Obj.cells #[] 45)) ao (cellsOf []) := fun h => absurd h (by simp [cellsOf])
      have HN := Lib.hid hnews
      clear hnews hs
      go_wp2_with (at_builtin; refine wpList_append_src _ rfl (.tmp 18) (.tmp 21) 22 rfl w.heap.size 45 i0 (.int .u32 0) 1 4 undU32s hi hz0 hz1 hz2 rfl (by decide) (.slice (some ⟨w.heap.size, 0, none⟩) 0 0) 0 [] rfl (World.ownsRow_made w #[] 0 (Nat.le_refl _) (Nat.zero_le _) rfl) _ 0 _ (cellsOf []) rfl rfl HN.out (cellsOf_one _) (by unfold maxLen; omega) (by omega) (by simp) ?_; intro v' w1 hown hg _)
      simp only [List.nil_append, Nat.zero_add] at hown
      have hr := hown
      have e : trimL xs = [] := by rw [← HT.out]; rfl
      rw [← e] at hr
      go_wp2
      go_ret
      exact ⟨_, rfl, ⟨_, hr⟩, (Kp.alloc w _).grown hg (by simp) (by intro j hj; simp [Value.ownBlock] at hj; omega)⟩
set_option maxHeartbeats 1000000 in
theorem byLimb_any (a : Value) (n d : Nat) (w : World) (ha : M w a n) (hl : (toL n).length ≤ 1099511627776) (hd0 : 0 < d) (hd1 : d < 4294967296) :
    Calls Tryd.prog 52 #[a, .int .u32 d] w fun e w' => ∃ v' k, e = .returned (.tuple #[v', .int .u32 (n % d : Nat)]) ∧ w'.ownsRow w.heap.size 45 1 v' k (cellsOf (toL (n / d))) ∧ Kp w w' := by
  obtain ⟨i0, hi, hz0, hz1, hz2⟩ := info_parts infoU32
  obtain ⟨ao, ac, rfl, a1, a2, a3, a4⟩ := ha
  have HNX := Lib.hid (val_toL n)
  obtain ⟨X, hX⟩ : ∃ X, X = toL n := ⟨_, rfl⟩
  rw [← hX] at a1 a3 a4 hl HNX ⊢
  have A3 := Lib.hid a3
  unfold maxLen at a2
  obtain ⟨m, hm⟩ : ∃ m, m = n % d := ⟨_, rfl⟩
  obtain ⟨q, hq⟩ : ∃ q, q = n / d := ⟨_, rfl⟩
  rw [← hm, ← hq]
  have HM := Lib.hid hm
  have HQ := Lib.hid hq
  clear a3 hX hm hq
  go_enter Tryd.func52, Tryd.ntmps52
  go_wp2_with (at_make; refine wpList_make_full _ rfl _ _ 22 rfl w.heap.size 45 i0 (.int .u32 0) 1 undU32s hi hz0 hz1 _ _ _ _ X.length rfl rfl (by omega) (by omega) (by rw [hz2]; omega) (by unfold maxLen; omega) (Nat.le_refl _) ?_; intro w1 hown hg; have O1 := Lib.hid (Own.of_make hown); have K1 := (Below.refl w.heap.size w).grown hg (Nat.le_refl _) (by intro j hj; cases hj); clear hown hg)
  go_loopw [7, 8] (fun rv i wr => ∃ (j r : Nat) (P : List Nat), j ≤ X.length ∧ i = .int .i64 ((j : Int) - 1) ∧ rv = .int .u64 r ∧ r < d ∧ Own wr 45 w.heap.size P ∧ Limbs P ∧ P.length = X.length ∧
      val (X.drop j) = val (P.drop j) * d + r ∧ Kp w wr) (fun _ i _ => (intOf i + 1).toNat)
  case atStart => exact ⟨X.length, 0, List.replicate X.length 0, Nat.le_refl _, rfl, rfl, hd0, O1.out, Limbs.replicate _, by simp, by simp [val], K1⟩
  case round =>
    obtain ⟨j, r, P, hj, rfl, rfl, hr, hP, hPL, hPl, hPv, K2⟩ := hrel
    have HP := Lib.hid hP
    have HPL := Lib.hid hPL
    have HPl := Lib.hid hPl
    have HPv := Lib.hid hPv
    clear hP hPL hPl hPv
    by_cases hj0 : 0 < j
    · obtain ⟨i, rfl⟩ : ∃ i, j = i + 1 := ⟨j - 1, by omega⟩
      obtain ⟨ab, aoff, x, rfl, hcell, hx, HX⟩ := (a4.kp K2).at A3.out i (by omega)
      have hplt : i < P.length := by rw [HPl.out]; omega
      have hcell2 := HP.out.cell i hplt
      have hfz := HP.out.frozen i
      have HB := Lib.hid (orw hr hd1 hx)
      go_wp2
      rw [HB.out.1, HB.out.2.1]
      go_roundw
      case rel => exact ⟨i, (r * 4294967296 + x) % d, P.set i ((r * 4294967296 + x) / d), by omega, by go_num, rfl, Nat.mod_lt _ hd0, HP.out.set i _, HPL.out.set i _ HB.out.2.2, by rw [List.length_set]; exact HPl.out, div_into (by omega) HPl.out HX.out HPv.out, Kp.setCell K2 (Nat.le_refl _) _⟩
      case measure => simp [intOf]
    · obtain rfl : j = 0 := by omega
      have hv := HPv.out
      rw [List.drop_zero, List.drop_zero, HNX.out] at hv
      have hq : val P = q := by rw [HQ.out, hv]; rw [Nat.mul_comm, Nat.mul_add_div hd0, Nat.div_eq_of_lt hr, Nat.add_zero]
      have hm : r = m := by rw [HM.out, hv, Nat.mul_comm, Nat.mul_add_mod, Nat.mod_eq_of_lt hr]
      have hrd := HP.out.rd HPL.out X.length (by rw [HPl.out]; exact Nat.le_refl _) X.length (Nat.le_refl _) (by unfold maxLen; omega)
      rw [List.take_of_length_le (by rw [HPl.out]; exact Nat.le_refl _)] at hrd
      have HTR := Lib.hid (trim_own _ P wr hrd (by rw [HPl.out]; exact hl))
      have ht := toL_val HPL.out
      rw [← ht, hq] at HTR
      have HRM := Lib.hid hm
      clear hrd ht hv hq hm
      go_wp2_with (go_at_call 39; refine HTR.out.mono ?_; rintro e w4 ⟨v4, k4, rfl, h4, K5⟩)
      go_ret2
      exact ⟨_, _, ret_pair (by rw [HRM.out]), owns_base h4 K2.size, K2.tr K5⟩
end Go.Proofs.YtijadodleiiomaaDoor
