/-
  Decimal digits in groups of nine: plain mathematics.
-/
import Derived.Test.YtijadodleiiomaaDoorGroup
namespace Go.Proofs.YtijadodleiiomaaDoor
open Go.Lib (decDigits nDigits decDigits_length nDigits_small nDigits_big)

/-- k decimal digits. -/
def pad (k u : Nat) : List UInt8 := (List.range k).map fun t => digit u (k - 1 - t)

theorem pad_succ (k u : Nat) : pad (k + 1) u = digit u k :: pad k u := by
  unfold pad
  rw [List.range_succ_eq_map, List.map_cons, List.map_map]
  congr 1
  apply List.map_congr_left
  intro t _
  show digit u (k + 1 - 1 - (t + 1)) = digit u (k - 1 - t)
  rw [show k + 1 - 1 - (t + 1) = k - 1 - t by omega]

theorem dec_pad (k n : Nat) (h : 10 ^ k ≤ n) : decDigits n = decDigits (n / 10 ^ k) ++ pad k n := by
  induction k with
  | zero => simp [pad]
  | succ k ih =>
    have h1 : 10 ^ k ≤ 10 ^ (k + 1) := Nat.pow_le_pow_right (by omega) (by omega)
    rw [ih (by omega), pad_succ]
    have h2 : ¬ n / 10 ^ k < 10 := by
      intro hlt
      have := Nat.lt_mul_of_div_lt hlt (Nat.pow_pos (by omega))
      rw [Nat.pow_succ] at h
      rw [Nat.mul_comm] at this
      omega
    rw [decDigits, dif_neg h2, Nat.div_div_eq_div_mul, ← Nat.pow_succ, List.append_assoc]
    rfl

theorem nine_pad (n : Nat) : nine (n % 1000000000) = pad 9 n := by
  unfold nine pad
  apply List.map_congr_left
  intro t ht
  have ht : t < 9 := by simpa using ht
  unfold digit
  congr 2
  have : t = 0 ∨ t = 1 ∨ t = 2 ∨ t = 3 ∨ t = 4 ∨ t = 5 ∨ t = 6 ∨ t = 7 ∨ t = 8 := by omega
  rcases this with h | h | h | h | h | h | h | h | h <;> subst h <;> simp only [Nat.reduceSub, Nat.reducePow] <;> omega

theorem dec_nine (n : Nat) (h : n / 1000000000 ≠ 0) : decDigits n = decDigits (n / 1000000000) ++ nine (n % 1000000000) := by
  rw [nine_pad]
  exact dec_pad 9 n (by show 1000000000 ≤ n; omega)

theorem dec_zero : decDigits 0 = [48] := by rw [decDigits, dif_pos (by omega)]; rfl

theorem nDigits_le (u d : Nat) (h : u < 10 ^ d) (hd : 0 < d) : nDigits u ≤ d := by
  induction d generalizing u with
  | zero => omega
  | succ d ih =>
    by_cases hu : u < 10
    · rw [nDigits_small hu]; omega
    · rw [nDigits_big hu]
      have h10 : u / 10 < 10 ^ d := by
        rw [Nat.pow_succ] at h
        exact Nat.div_lt_of_lt_mul (by rw [Nat.mul_comm]; exact h)
      have hd0 : 0 < d := by
        rcases Nat.eq_zero_or_pos d with e | e
        · subst e; simp at h; omega
        · exact e
      have := ih _ h10 hd0
      omega

theorem dec_len (n m : Nat) (h : n < 4294967296 ^ m) : (decDigits n).length ≤ 10 * m + 1 := by
  rw [decDigits_length]
  have h1 : 4294967296 ^ m ≤ (10 ^ 10) ^ m := Nat.pow_le_pow_left (by omega) m
  rw [← Nat.pow_mul] at h1
  have h2 : 10 ^ (10 * m) ≤ 10 ^ (10 * m + 1) := Nat.pow_le_pow_right (by omega) (by omega)
  exact nDigits_le n (10 * m + 1) (by omega) (by omega)

/-- The groups of nine digits, the lowest first. -/
def groups (n j : Nat) : List Nat := (List.range j).map fun t => n / 1000000000 ^ t % 1000000000

theorem groups_len (n j : Nat) : (groups n j).length = j := by simp [groups]
theorem groups_succ (n j : Nat) : groups n (j + 1) = groups n j ++ [n / 1000000000 ^ j % 1000000000] := by simp [groups, List.range_succ]
theorem groups_at (n j t : Nat) (h : t < j) : (groups n j).getD t 0 = n / 1000000000 ^ t % 1000000000 := by simp [groups, List.getD, h]
theorem groups_limbs (n j : Nat) : Limbs (groups n j) := by
  intro x hx
  obtain ⟨t, _, rfl⟩ := List.mem_map.1 hx
  have := Nat.mod_lt (n / 1000000000 ^ t) (show 0 < 1000000000 by omega)
  omega

theorem lt_pow9 (j : Nat) : j < 1000000000 ^ j := Nat.lt_pow_self (by omega)

theorem pow9 (j : Nat) : 1000000000 ^ (j + 1) = 1000000000 ^ j * 1000000000 := Nat.pow_succ _ _

theorem quo_next (n j : Nat) : n / 1000000000 ^ (j + 1) = n / 1000000000 ^ j / 1000000000 := by rw [pow9, Nat.div_div_eq_div_mul]

theorem le_of_quo {n j : Nat} (h : n / 1000000000 ^ j ≠ 0) : j < n := by
  have h1 := lt_pow9 j
  have h2 : 1000000000 ^ j ≤ n := by
    rcases Nat.lt_or_ge n (1000000000 ^ j) with h2 | h2
    · exact absurd (Nat.div_eq_of_lt h2) h
    · exact h2
  omega

theorem quo_bound {n j m : Nat} (h : n / 1000000000 ^ j ≠ 0) (hn : n < 4294967296 ^ m) : j < 2 * m := by
  have h2 : 1000000000 ^ j ≤ n := by
    rcases Nat.lt_or_ge n (1000000000 ^ j) with h2 | h2
    · exact absurd (Nat.div_eq_of_lt h2) h
    · exact h2
  have h1 : 4294967296 ^ m ≤ (1000000000 ^ 2) ^ m := Nat.pow_le_pow_left (by omega) m
  rw [← Nat.pow_mul] at h1
  exact (Nat.pow_lt_pow_iff_right (a := 1000000000) (by omega)).1 (by omega)

theorem dec_step (n t : Nat) (h : n / 1000000000 ^ (t + 1) ≠ 0) : decDigits (n / 1000000000 ^ t) = decDigits (n / 1000000000 ^ (t + 1)) ++ nine (n / 1000000000 ^ t % 1000000000) := by
  rw [quo_next] at h ⊢
  exact dec_nine _ h

theorem quo_down {n t : Nat} (h : n / 1000000000 ^ (t + 1) ≠ 0) : n / 1000000000 ^ t ≠ 0 := by
  rw [quo_next] at h
  intro e
  rw [e] at h
  exact h rfl

end Go.Proofs.YtijadodleiiomaaDoor
