/-
  natural.trim, brepkernelmade.Mag, light: by walking their texts.
-/
import Derived.Test.YtijadodleiiomaaDoorTrim
namespace Go.Proofs.YtijadodleiiomaaDoor
open Go.RowKit

theorem ret_slice {a : Option Addr} {n m c : Nat} (h : n = m) : Ending.returned (.slice a n c) = .returned (.slice a m c) := by rw [h]

set_option maxHeartbeats 400000 in
theorem ntrim_at (ao : Option Addr) (cap : Nat) (xs : List Nat) (w : World) (hc1 : xs.length ≤ cap) (hm : cap ≤ maxLen) (hs : Sl w ao xs) :
    Calls Tryd.prog 40 #[.slice ao xs.length cap] w fun e w' => e = .returned (.slice ao (trimL xs).length cap) ∧ w = w' := by
  unfold maxLen at hm
  go_enter Tryd.func40, Tryd.ntmps40
  go_wp2
  go_loop [0] (fun v => ∃ k : Nat, k ≤ xs.length ∧ v = .slice ao k cap ∧ trimL (xs.take k) = trimL xs) (fun v => match v with | .slice _ n _ => n | _ => 0)
  case atStart => exact ⟨xs.length, Nat.le_refl _, rfl, by simp⟩
  case round =>
    obtain ⟨k, hk, rfl, ht⟩ := hrel
    have HT := Lib.hid ht
    clear ht
    by_cases hk0 : 0 < k
    · obtain ⟨b, off, rfl, hc⟩ := hs.cell (by omega)
      have hcell := hc (k - 1) (by omega)
      clear hc hs
      by_cases hz : xs.getD (k - 1) 0 = 0
      · have hzb : ((((xs[k - 1]?.getD 0 : Nat) : Int)) == 0) = true := by simpa [List.getD] using hz
        have HZ := Lib.hid hz
        clear hz
        go_wp2
        go_round
        case rel => exact ⟨k - 1, by omega, by go_num, by rw [← trimL_step xs k hk0 hk HZ.out]; exact HT.out⟩
        case measure => simp; omega
      · have hzb : ((((xs[k - 1]?.getD 0 : Nat) : Int)) == 0) = false := by simpa [List.getD] using hz
        have hl : (trimL xs).length = k := by rw [← HT.out, trimL_stop xs k hk0 hk hz]; simp; omega
        have HZ := Lib.hid hl
        clear hz hl
        go_wp2
        go_ret
        exact ⟨ret_slice HZ.out.symm, rfl⟩
    · obtain rfl : k = 0 := by omega
      have hl : (trimL xs).length = 0 := by rw [← HT.out]; rfl
      have HZ := Lib.hid hl
      clear hl
      go_wp2
      go_ret
      exact ⟨ret_slice HZ.out.symm, rfl⟩

/-- The same, the length as a number of its own. -/
theorem ntrim_of (ao : Option Addr) (n cap : Nat) (xs : List Nat) (w : World) (hn : xs.length = n) (hc1 : n ≤ cap) (hm : cap ≤ maxLen) (hs : Sl w ao xs) :
    Calls Tryd.prog 40 #[.slice ao n cap] w fun e w' => e = .returned (.slice ao (trimL xs).length cap) ∧ w = w' := by
  subst hn
  exact ntrim_at ao cap xs w hc1 hm hs

theorem ntrim_any (v : Value) (xs : List Nat) (w : World) (h : Rd w v xs) :
    Calls Tryd.prog 40 #[v] w fun e w' => ∃ v', e = .returned v' ∧ Rd w v' (trimL xs) ∧ w = w' := by
  obtain ⟨ao, cap, rfl, hc1, hm, hx, hs⟩ := h
  refine (ntrim_at ao cap xs w hc1 hm hs).mono fun e w' ⟨he, hw⟩ => ⟨_, he, ⟨ao, cap, rfl, ?_, hm, limbs_trimL hx, ?_⟩, hw⟩
  · exact Nat.le_trans (length_trimL xs) hc1
  · rw [← trimL_take xs]
    exact hs.take _

theorem mag_any (v : Value) (xs : List Nat) (w : World) (hs : Rd w v xs) (hl : xs.length ≤ 1099511627776) :
    Calls Tryd.prog 13 #[v] w fun e w' => ∃ v', e = .returned v' ∧ Rd w' v' (toL (val xs)) ∧ Kp w w' := by
  have hx : toL (val xs) = trimL xs := toL_val (by obtain ⟨_, _, _, _, _, hx, _⟩ := hs; exact hx)
  rw [hx]
  have HS := Lib.hid hs
  clear hs hx
  go_enter Tryd.func13, Tryd.ntmps13
  go_wp2_with (go_at_call 39; refine (trim_any v xs w HS.out hl).mono ?_; rintro e w1 ⟨v1, rfl, h1, k1⟩)
  go_ret
  exact ⟨_, rfl, h1, k1⟩

theorem light_any (a b : Value) (xs ys : List Nat) (w : World) (ha : Rd w a xs) (hb : Rd w b ys) :
    Calls Tryd.prog 11 #[a, b] w fun e w' => e = .returned (.bool (decide (xs.length ≤ 40 ∧ ys.length ≤ 40))) ∧ w = w' := by
  obtain ⟨ao, cap, rfl, hc1, hm, hx, hs⟩ := ha
  obtain ⟨ao', cap', rfl, hc1', hm', hx', hs'⟩ := hb
  unfold maxLen at hm hm'
  clear hs hs' hx hx'
  by_cases h1 : xs.length ≤ 40
  · by_cases h2 : ys.length ≤ 40
    · rw [decide_eq_true (show xs.length ≤ 40 ∧ ys.length ≤ 40 from ⟨h1, h2⟩)]
      have h1' : decide ((xs.length : Int) ≤ 40) = true := decide_eq_true (by omega)
      have h2' : decide ((ys.length : Int) ≤ 40) = true := decide_eq_true (by omega)
      go_enter Tryd.func11, Tryd.ntmps11
      go_wp2
      go_ret
      exact ⟨rfl, rfl⟩
    · rw [decide_eq_false (show ¬ (xs.length ≤ 40 ∧ ys.length ≤ 40) from fun h => h2 h.2)]
      have h1' : decide ((xs.length : Int) ≤ 40) = true := decide_eq_true (by omega)
      have h2' : decide ((ys.length : Int) ≤ 40) = false := decide_eq_false (by omega)
      go_enter Tryd.func11, Tryd.ntmps11
      go_wp2
      go_ret
      exact ⟨rfl, rfl⟩
  · rw [decide_eq_false (show ¬ (xs.length ≤ 40 ∧ ys.length ≤ 40) from fun h => h1 h.1)]
    have h1' : decide ((xs.length : Int) ≤ 40) = false := decide_eq_false (by omega)
    go_enter Tryd.func11, Tryd.ntmps11
    go_wp2
    go_ret
    exact ⟨rfl, rfl⟩
end Go.Proofs.YtijadodleiiomaaDoor
