/-
  brepkernelref02.digits, ten: by walking their texts.
-/
import Derived.Test.YtmnnnoeenfmckaaGreatDoorBp
import Derived.Test.YtmnnnoeenfmckaaGreatDoorBg
import Derived.Test.YtmnnnoeenfmckaaGreatDoorBi
namespace Go.Proofs.YtmnnnoeenfmckaaGreatDoor
open Go.RowKit

theorem digits_len {l : List UInt8} {k : Nat} (hd : digits (l.take k) = true) (hk : k < l.length) (hn : isDig l[k] = false) : (l.takeWhile isDig).length = k := by
  rw [(cut_at hd hk hn).1, List.length_take]
  omega

set_option maxRecDepth 20000 in
set_option maxHeartbeats 1000000 in
theorem rdigits_any (s : ByteArray) (w : World) (hs : s.size ≤ 9223372036854775807) :
    Calls Tryz.prog 93 #[.string s] w fun e w' => e = .returned (.int .i64 ((s.data.toList.takeWhile isDig).length : Nat)) ∧ Kp w w' := by
  go_enter Tryz.func93, Tryz.ntmps93
  go_wp2
  go_loop [3] (fun i => ∃ k : Nat, k ≤ s.size ∧ i = .int .i64 k ∧ digits (s.data.toList.take k) = true) (fun i => s.size - (intOf i).toNat)
  case atStart => exact ⟨0, Nat.zero_le _, rfl, rfl⟩
  case round =>
    obtain ⟨k, hk, rfl, hd⟩ := hrel
    have HD := Lib.hid hd
    clear hd
    by_cases hlt : k < s.size
    · have HCUT := Lib.hid (fun (h : isDig s[k] = false) => digits_len HD.out hlt h)
      by_cases h1 : s[k].toNat < 48
      · have HC := Lib.hid (HCUT.out (by unfold isDig; exact decide_eq_false (by omega)))
        clear HCUT
        go_wp2
        go_ret
        exact ⟨ret_int (by rw [HC.out]), Below.refl _ _⟩
      · by_cases h2 : 57 < s[k].toNat
        · have HC := Lib.hid (HCUT.out (by unfold isDig; exact decide_eq_false (by omega)))
          clear HCUT
          go_wp2
          go_ret
          exact ⟨ret_int (by rw [HC.out]), Below.refl _ _⟩
        · have HF := Lib.hid (digits_step k hlt HD.out (by omega))
          clear HCUT
          go_wp2
          go_round
          case rel => exact ⟨k + 1, by omega, by go_num, HF.out⟩
          case measure => simp [intOf]; omega
    · obtain rfl : k = s.size := by omega
      have hd := HD.out
      rw [take_size] at hd
      have HC := Lib.hid (cut_all hd).1
      have HL := Lib.hid (len_data s)
      clear hd
      go_wp2
      go_ret
      exact ⟨ret_int (by rw [HC.out, HL.out]), Below.refl _ _⟩

set_option maxRecDepth 20000 in
set_option maxHeartbeats 1000000 in
theorem rten_any (n : Nat) (w : World) (hn : n ≤ 16384) :
    Calls Tryz.prog 95 #[.int .i64 (n : Nat)] w fun e w' => ∃ v, e = .returned v ∧ M w' v (10 ^ n) ∧ Kp w w' := by
  have HM1 := Lib.hid (fun (w' : World) => (show M (w'.alloc (.cells #[.int .u32 1] 55)) (.slice (some ⟨w'.heap.size, 0, none⟩) 1 1) 1 from m_one (x := 1) (cell_of_row _ _ 0 _ _ _ (heap_alloc_new w' _)) (by decide) (by decide) (by decide) (by decide)))
  have HM10 := Lib.hid (fun (w' : World) => (show M (w'.alloc (.cells #[.int .u32 10] 55)) (.slice (some ⟨w'.heap.size, 0, none⟩) 1 1) 10 from m_one (x := 10) (cell_of_row _ _ 0 _ _ _ (heap_alloc_new w' _)) (by decide) (by decide) (by decide) (by decide)))
  have hn9 : (n : Int) ≤ 16384 := by omega
  have HST := Lib.hid (HM1.out w)
  go_enter Tryz.func95, Tryz.ntmps95
  go_wp2_with fail
  go_loopw [3, 4] (fun ov iv wr => ∃ (k : Nat) (vo : Value), vo = ov ∧ iv = .int .i64 k ∧ k ≤ n ∧ Hid (M wr vo (10 ^ k)) ∧ Hid (Kp w wr)) (fun _ i _ => n - (intOf i).toNat)
  case atStart => exact ⟨0, _, rfl, rfl, Nat.zero_le _, by rw [Nat.pow_zero]; exact HST, Lib.hid (Kp.alloc _ _)⟩
  case round =>
    obtain ⟨k, vo, rfl, rfl, hkn, HV, HK⟩ := hrel
    obtain ⟨oo, lo, co, rfl⟩ : ∃ o l c, vo = .slice o l c := by
      obtain ⟨o, c, e, _⟩ := HV.out
      exact ⟨o, _, c, e⟩
    by_cases hlt : k < n
    · have CM := Lib.hid (rmul_any (HV.out.kp (Kp.alloc wr (.cells #[.int .u32 10] 55))) (HM10.out wr) (ten_szk k) (length_toL_le 10 1 (by decide)) (by omega) (by omega))
      rw [← Nat.pow_succ] at CM
      go_wp2_with (go_at_call 77; (with_reducible refine CM.out.mono ?_); rintro e w2 ⟨v2, rfl, m2, k2⟩; refine Hid.out ?_)
      refine Lib.hid ?_
      have HV2 := Lib.hid m2
      have HK2 := Lib.hid ((HK.out.tr (Kp.alloc _ _)).tr k2)
      clear m2 k2
      go_wp2_with fail
      go_roundw
      case rel => exact ⟨k + 1, _, rfl, by go_num, by omega, HV2, HK2⟩
      case measure => simp [intOf]; omega
    · obtain rfl : k = n := by omega
      go_wp2
      go_ret
      exact ⟨_, rfl, HV.out, HK.out⟩
end Go.Proofs.YtmnnnoeenfmckaaGreatDoor
