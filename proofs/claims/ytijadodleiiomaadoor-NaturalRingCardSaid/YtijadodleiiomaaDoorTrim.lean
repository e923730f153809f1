/-
  brepkernelref01.Trim, by walking its text.
-/
import Derived.Test.YtijadodleiiomaaDoorFacts
namespace Go.Proofs.YtijadodleiiomaaDoor
open Go.RowKit

theorem Kp.alloc (w : World) (o : Obj) : Kp w (w.alloc o) := (Below.refl _ _).alloc (Nat.le_refl _) o

set_option maxHeartbeats 400000 in
theorem trim_any (v : Value) (xs : List Nat) (w : World) (hs : Rd w v xs) (hl : xs.length ≤ 1099511627776) :
    Calls Tryd.prog 39 #[v] w fun e w' => ∃ v', e = .returned v' ∧ Rd w' v' (trimL xs) ∧ Kp w w' := by
  obtain ⟨ao, cap, rfl, hc1, hm, hx, hs⟩ := hs
  unfold maxLen at hm
  obtain ⟨i0, hi, hz0, hz1, hz2⟩ := info_parts infoU32
  go_enter Tryd.func39, Tryd.ntmps39
  go_wp2
  go_loop [3] (fun i => ∃ k : Nat, k ≤ xs.length ∧ i = .int .i64 k ∧ trimL (xs.take k) = trimL xs) (fun i => (intOf i).toNat)
  case atStart => exact ⟨xs.length, Nat.le_refl _, rfl, by simp⟩
  case round =>
    obtain ⟨k, hk, rfl, ht⟩ := hrel
    have HT := Lib.hid ht
    have HX := Lib.hid hx
    clear ht hx
    by_cases hk0 : 0 < k
    · have hlen : (cellsOf (xs.take k)).length = k * 1 := by simp [cellsOf]; omega
      have hnews := ((hs.take k).kp (Kp.alloc w (Obj.cells #[] 45))).news
      have HLen := Lib.hid hlen
      obtain ⟨b, off, rfl, hc⟩ := hs.cell (by omega)
      have hcell := hc (k - 1) (by omega)
      have HN := Lib.hid hnews
      clear hc hs hlen hnews
      by_cases hz : xs.getD (k - 1) 0 = 0
      · have hzb : ((((xs[k - 1]?.getD 0 : Nat) : Int)) == 0) = true := by simpa [List.getD] using hz
        have HZ := Lib.hid hz
        clear hz
        go_wp2
        go_round
        case rel => exact ⟨k - 1, by omega, by go_num, by rw [← trimL_step xs k hk0 hk HZ.out]; exact HT.out⟩
        case measure => simp [intOf]; omega
      · have hzb : ((((xs[k - 1]?.getD 0 : Nat) : Int)) == 0) = false := by simpa [List.getD] using hz
        have HZ := Lib.hid (trimL_stop xs k hk0 hk hz)
        clear hz
        go_wp2_with (at_builtin; refine wpList_append_src _ rfl (.tmp 18) (.tmp 21) 22 rfl w.heap.size 45 i0 (.int .u32 0) 1 4 undU32s hi hz0 hz1 hz2 rfl (by decide) (.slice (some ⟨w.heap.size, 0, none⟩) 0 0) 0 [] rfl (World.ownsRow_made w #[] 0 (Nat.le_refl _) (Nat.zero_le _) rfl) _ k _ (cellsOf (xs.take k)) rfl HLen.out HN.out (cellsOf_one _) (by unfold maxLen; omega) (by omega) (by simp) ?_; intro v' w1 hown hg _)
        simp only [List.nil_append, Nat.zero_add] at hown
        have hr := Rd.owned hown (HX.out.take k)
        rw [← HZ.out, HT.out] at hr
        go_wp2
        go_ret
        exact ⟨_, rfl, hr, (Kp.alloc w _).grown hg (by simp) (by intro j hj; simp [Value.ownBlock] at hj; omega)⟩
    · obtain rfl : k = 0 := by omega
      have hnews : Src (w.alloc (Obj.cells #[] 45)) ao (cellsOf []) := fun h => absurd h (by simp [cellsOf])
      have HN := Lib.hid hnews
      clear hnews hs
      go_wp2_with (at_builtin; refine wpList_append_src _ rfl (.tmp 18) (.tmp 21) 22 rfl w.heap.size 45 i0 (.int .u32 0) 1 4 undU32s hi hz0 hz1 hz2 rfl (by decide) (.slice (some ⟨w.heap.size, 0, none⟩) 0 0) 0 [] rfl (World.ownsRow_made w #[] 0 (Nat.le_refl _) (Nat.zero_le _) rfl) _ 0 _ (cellsOf []) rfl rfl HN.out (cellsOf_one _) (by unfold maxLen; omega) (by omega) (by simp) ?_; intro v' w1 hown hg _)
      simp only [List.nil_append, Nat.zero_add] at hown
      have hr := Rd.owned hown Limbs.nil
      have e : trimL xs = [] := by rw [← HT.out]; rfl
      rw [← e] at hr
      go_wp2
      go_ret
      exact ⟨_, rfl, hr, (Kp.alloc w _).grown hg (by simp) (by intro j hj; simp [Value.ownBlock] at hj; omega)⟩
end Go.Proofs.YtijadodleiiomaaDoor
