/-
  natural.isDigits, groupValue, appendLimb, Parse: by walking their texts.
-/
import Derived.Test.YtijadodleiiomaaDoorRShift
namespace Go.Proofs.YtijadodleiiomaaDoor
open Go.RowKit

/-- One decimal digit more. -/
def dnext (n : Nat) (c : UInt8) : Nat := 10 * n + (c.toNat - 48)
/-- The number of decimal digits. -/
def dval (l : List UInt8) : Nat := l.foldl dnext 0
def isDig (c : UInt8) : Bool := decide (48 ≤ c.toNat ∧ c.toNat ≤ 57)
def digits (l : List UInt8) : Bool := l.all isDig

theorem dval_foldl (l : List UInt8) (n : Nat) : l.foldl dnext n = n * 10 ^ l.length + dval l := by
  induction l generalizing n with
  | nil => simp [dval]
  | cons c l ih =>
    simp only [dval, List.foldl_cons, List.length_cons, Nat.pow_succ]
    rw [ih, ih (dnext 0 c)]
    unfold dnext
    rw [Nat.add_mul, Nat.add_mul, Nat.mul_comm 10 n, Nat.mul_assoc, Nat.mul_comm 10 (10 ^ l.length)]
    omega

theorem dval_append (a b : List UInt8) : dval (a ++ b) = dval a * 10 ^ b.length + dval b := by
  unfold dval
  rw [List.foldl_append]
  exact dval_foldl b _

theorem dval_snoc (a : List UInt8) (c : UInt8) : dval (a ++ [c]) = 10 * dval a + (c.toNat - 48) := by
  unfold dval
  rw [List.foldl_append]
  rfl

theorem dval_lt {l : List UInt8} (h : digits l = true) : dval l < 10 ^ l.length := by
  have hx : ∀ (l : List UInt8) (n : Nat), digits l = true → l.foldl dnext n < (n + 1) * 10 ^ l.length := by
    intro l
    induction l with
    | nil => intro n _; simp
    | cons c l ih =>
      intro n h
      unfold digits at h
      rw [List.all_cons, Bool.and_eq_true] at h
      have h3 := of_decide_eq_true h.1
      have h1 := ih (dnext n c) h.2
      rw [List.foldl_cons, List.length_cons, Nat.pow_succ]
      have h2 : dnext n c + 1 ≤ (n + 1) * 10 := by unfold dnext; omega
      have h4 := Nat.mul_le_mul_right (10 ^ l.length) h2
      rw [Nat.mul_assoc, Nat.mul_comm 10] at h4
      omega
  have := hx l 0 h
  rwa [Nat.zero_add, Nat.one_mul] at this

theorem digits_take {l : List UInt8} (h : digits l = true) (k : Nat) : digits (l.take k) = true := by
  unfold digits at *
  rw [List.all_eq_true] at *
  exact fun x hx => h x (List.mem_of_mem_take hx)
theorem digits_drop {l : List UInt8} (h : digits l = true) (k : Nat) : digits (l.drop k) = true := by
  unfold digits at *
  rw [List.all_eq_true] at *
  exact fun x hx => h x (List.mem_of_mem_drop hx)
theorem digits_get {l : List UInt8} (h : digits l = true) (k : Nat) (hk : k < l.length) : 48 ≤ l[k].toNat ∧ l[k].toNat ≤ 57 := by
  unfold digits at h
  rw [List.all_eq_true] at h
  exact of_decide_eq_true (h _ (List.getElem_mem hk))

theorem take_next (l : List UInt8) (k : Nat) (hk : k < l.length) : l.take (k + 1) = l.take k ++ [l[k]] := by
  rw [List.take_succ_eq_append_getElem hk]

/-- Whether a text is one or more decimal digits. -/
def goodB (s : ByteArray) : Bool := digits s.data.toList && !s.data.toList.isEmpty

theorem len_data (s : ByteArray) : s.data.toList.length = s.size := rfl

theorem take_size (s : ByteArray) : s.data.toList.take s.size = s.data.toList := List.take_of_length_le (Nat.le_refl _)

theorem byte_dig {s : ByteArray} (h : digits s.data.toList = true) (k : Nat) (hk : k < s.size) : 48 ≤ s[k].toNat ∧ s[k].toNat ≤ 57 := digits_get h k hk

theorem dval_next (s : ByteArray) (k : Nat) (hk : k < s.size) : dval (s.data.toList.take (k + 1)) = 10 * dval (s.data.toList.take k) + (s[k].toNat - 48) := by
  rw [take_next _ k hk]
  exact dval_snoc _ _

theorem good_false {s : ByteArray} (k : Nat) (hk : k < s.size) (h : ¬ (48 ≤ s[k].toNat ∧ s[k].toNat ≤ 57)) : goodB s = false := by
  unfold goodB
  have : digits s.data.toList = false := by
    rcases Bool.eq_false_or_eq_true (digits s.data.toList) with e | e
    · exact absurd (digits_get e k hk) h
    · exact e
  rw [this]
  rfl

theorem good_true {s : ByteArray} (h : digits s.data.toList = true) (h0 : 0 < s.size) : goodB s = true := by
  unfold goodB
  rw [h]
  have : s.data.toList ≠ [] := by
    intro e
    have := len_data s
    rw [e] at this
    simp at this
    omega
  simpa using this

theorem digits_step {s : ByteArray} (k : Nat) (hk : k < s.size) (h : digits (s.data.toList.take k) = true) (h2 : 48 ≤ s[k].toNat ∧ s[k].toNat ≤ 57) : digits (s.data.toList.take (k + 1)) = true := by
  rw [take_next _ k hk]
  unfold digits at *
  rw [List.all_append, h, Bool.true_and]
  simp only [List.all_cons, List.all_nil, Bool.and_true]
  exact decide_eq_true h2

set_option maxHeartbeats 400000 in
theorem isDigits_any (s : ByteArray) (w : World) (hs : s.size ≤ 9223372036854775807) :
    Calls Tryd.prog 61 #[.string s] w fun e w' => e = .returned (.bool (goodB s)) ∧ w = w' := by
  go_enter Tryd.func61, Tryd.ntmps61
  go_wp2
  go_loop [6] (fun i => ∃ k : Nat, k ≤ s.size ∧ i = .int .i64 k ∧ digits (s.data.toList.take k) = true) (fun i => s.size - (intOf i).toNat)
  case atStart => exact ⟨0, Nat.zero_le _, rfl, rfl⟩
  case round =>
    obtain ⟨k, hk, rfl, hd⟩ := hrel
    have HD := Lib.hid hd
    clear hd
    by_cases hlt : k < s.size
    · by_cases h1 : s[k].toNat < 48
      · have HF := Lib.hid (good_false k hlt (by omega)).symm
        go_wp2
        go_ret
        exact ⟨ret_bool HF.out, rfl⟩
      · by_cases h2 : 57 < s[k].toNat
        · have HF := Lib.hid (good_false k hlt (by omega)).symm
          go_wp2
          go_ret
          exact ⟨ret_bool HF.out, rfl⟩
        · have HF := Lib.hid (digits_step k hlt HD.out (by omega))
          go_wp2
          go_round
          case rel => exact ⟨k + 1, by omega, by go_num, HF.out⟩
          case measure => simp [intOf]; omega
    · obtain rfl : k = s.size := by omega
      have hd := HD.out
      rw [take_size] at hd
      rcases Nat.eq_zero_or_pos s.size with h0 | h0
      · have he : s.toList.isEmpty = true := by
          rw [ByteArray.toList_eq, List.isEmpty_iff]
          exact List.eq_nil_of_length_eq_zero h0
        have HF := Lib.hid (show false = goodB s by
          unfold goodB
          rw [← ByteArray.toList_eq, he]
          simp)
        clear hd h0
        go_wp2
        go_ret
        exact ⟨ret_bool HF.out, rfl⟩
      · have HF := Lib.hid (good_true hd h0).symm
        have he : s.toList.isEmpty = false := by
          rw [ByteArray.toList_eq]
          rcases Bool.eq_false_or_eq_true s.data.toList.isEmpty with e | e
          · rw [List.isEmpty_iff] at e
            have := len_data s
            rw [e] at this
            simp at this
            omega
          · exact e
        clear hd h0
        go_wp2
        go_ret
        exact ⟨ret_bool HF.out, rfl⟩

set_option maxHeartbeats 400000 in
theorem groupValue_any (s : ByteArray) (w : World) (hd : digits s.data.toList = true) (hs : s.size ≤ 9) :
    Calls Tryd.prog 63 #[.string s] w fun e w' => e = .returned (.int .u32 (dval s.data.toList : Nat)) ∧ w = w' := by
  have HD := Lib.hid hd
  clear hd
  go_enter Tryd.func63, Tryd.ntmps63
  go_wp2
  go_loop [3, 7] (fun v i => ∃ k : Nat, k ≤ s.size ∧ i = .int .i64 k ∧ v = .int .u32 (dval (s.data.toList.take k) : Nat)) (fun _ i => s.size - (intOf i).toNat)
  case atStart => exact ⟨0, Nat.zero_le _, rfl, rfl⟩
  case round =>
    obtain ⟨k, hk, rfl, rfl⟩ := hrel
    by_cases hlt : k < s.size
    · have h1 := digits_get HD.out k hlt
      have h2 := dval_lt (digits_take HD.out k)
      rw [List.length_take, Nat.min_eq_left (by rw [len_data]; omega)] at h2
      have h3 : 10 ^ k ≤ 10 ^ 8 := Nat.pow_le_pow_right (by omega) (by omega)
      have h4 := dval_next s k hlt
      obtain ⟨n, hn⟩ : ∃ n, n = dval (s.data.toList.take k) := ⟨_, rfl⟩
      rw [← hn] at h2 h4 ⊢
      have hb : n < 100000000 := by omega
      have H4 := Lib.hid h4
      have hc1 : 48 ≤ s[k].toNat := h1.1
      have hc2 : s[k].toNat ≤ 57 := h1.2
      clear h1 h2 h3 h4 hn
      go_wp2
      go_round
      case rel => exact ⟨k + 1, by omega, by go_num, by rw [H4.out]; go_num⟩
      case measure => simp [intOf]; omega
    · obtain rfl : k = s.size := by omega
      have HF := Lib.hid (show dval (s.data.toList.take s.size) = dval s.data.toList by rw [take_size])
      go_wp2
      go_ret
      exact ⟨ret_int (by rw [HF.out]), rfl⟩
end Go.Proofs.YtijadodleiiomaaDoor
