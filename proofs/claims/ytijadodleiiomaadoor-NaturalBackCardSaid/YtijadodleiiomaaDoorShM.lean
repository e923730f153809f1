/-
  Shifts of lists of limbs: plain mathematics.
-/
import Derived.Test.YtijadodleiiomaaDoorMath
namespace Go.Proofs.YtijadodleiiomaaDoor

/-- A power of 2 below 32 divides what a limb counts. -/
theorem limb_pow {n : Nat} (hn : n < 32) : ∃ q, 4294967296 = 2 ^ n * q ∧ 0 < 2 ^ n ∧ 2 ^ n < 4294967296 := by
  refine ⟨2 ^ (32 - n), ?_, Nat.pow_pos (by omega), ?_⟩
  · rw [← Nat.pow_add, show n + (32 - n) = 32 by omega]
  · exact Nat.pow_lt_pow_of_lt (by omega) hn

theorem or_low {c x n : Nat} (hc : c < 2 ^ n) : c ||| x * 2 ^ n = c + x * 2 ^ n := by
  rw [Nat.or_comm, Nat.mul_comm, ← Nat.two_pow_add_eq_or_of_lt hc x, Nat.add_comm]

/-- One step of a multiple by a power of 2. -/
theorem raise_step {D xs : List Nat} {k c x p : Nat} (hk : k < D.length) (hv : val (D.take k) + 4294967296 ^ k * c = val (xs.take k) * p) (hx : x = xs.getD k 0) :
    val ((D.set k ((c + x * p) % 4294967296)).take (k + 1)) + 4294967296 ^ (k + 1) * ((c + x * p) / 4294967296) = val (xs.take (k + 1)) * p := by
  rw [val_set_take _ _ _ hk, val_take_next xs, ← hx, powB k, Nat.mul_assoc, Nat.add_mul]
  have e : 4294967296 ^ k * ((c + x * p) % 4294967296) + 4294967296 ^ k * (4294967296 * ((c + x * p) / 4294967296)) = 4294967296 ^ k * c + 4294967296 ^ k * x * p := by
    rw [← Nat.mul_add, Nat.mod_add_div, Nat.mul_add, Nat.mul_assoc]
  omega

theorem raise_carry {c x p : Nat} (hc : c < p) (hx : x < 4294967296) : (c + x * p) / 4294967296 < p ∧ c + x * p < 4294967296 * p := by
  have h1 : (x + 1) * p ≤ 4294967296 * p := Nat.mul_le_mul_right _ hx
  rw [Nat.add_mul, Nat.one_mul] at h1
  have h2 : c + x * p < 4294967296 * p := by omega
  exact ⟨Nat.div_lt_of_lt_mul h2, h2⟩

theorem raise_fin {D xs : List Nat} {c p : Nat} (hk : xs.length < D.length) (hv : val (D.take xs.length) + 4294967296 ^ xs.length * c = val (xs.take xs.length) * p) :
    val ((D.set xs.length c).take (xs.length + 1)) = val xs * p := by
  rw [val_set_take _ _ _ hk, hv, List.take_of_length_le (Nat.le_refl _)]

theorem drop_set_ge (P : List Nat) (o k d : Nat) : (P.set (o + k) d).drop o = (P.drop o).set k d := by
  apply List.ext_getElem?
  intro i
  rw [List.getElem?_drop, List.getElem?_set, List.getElem?_set, List.getElem?_drop, List.length_drop]
  by_cases h : k = i
  · subst h
    by_cases h2 : o + k < P.length
    · simp [h2, show k < P.length - o by omega]
    · simp [h2, show ¬ k < P.length - o by omega]
  · simp [h]

/-- Limbs divided by a power of 2. -/
def lowL (n : Nat) : List Nat → List Nat
  | [] => []
  | x :: xs => (x + 4294967296 * xs.headD 0) / 2 ^ n % 4294967296 :: lowL n xs

theorem lowL_len (n : Nat) (xs : List Nat) : (lowL n xs).length = xs.length := by
  induction xs with
  | nil => rfl
  | cons x xs ih => simp [lowL, ih]

theorem lowL_limbs (n : Nat) (xs : List Nat) : Limbs (lowL n xs) := by
  induction xs with
  | nil => exact Limbs.nil
  | cons x xs ih => exact Limbs.cons (Nat.mod_lt _ (by omega)) ih

theorem headD_getD (xs : List Nat) : xs.headD 0 = xs.getD 0 0 := by cases xs <;> rfl

theorem lowL_getD (n : Nat) (xs : List Nat) (i : Nat) (h : i < xs.length) : (lowL n xs).getD i 0 = (xs.getD i 0 + 4294967296 * xs.getD (i + 1) 0) / 2 ^ n % 4294967296 := by
  induction xs generalizing i with
  | nil => simp at h
  | cons x xs ih =>
    cases i with
    | zero => simp only [lowL, List.getD_cons_zero, List.getD_cons_succ, headD_getD]
    | succ i =>
      simp only [lowL, List.getD_cons_succ]
      exact ih i (by simpa using h)

theorem val_mod_pow {n : Nat} (hn : n < 32) (xs : List Nat) : val xs % 2 ^ n = xs.headD 0 % 2 ^ n := by
  obtain ⟨q, hq, _, _⟩ := limb_pow hn
  cases xs with
  | nil => simp [val]
  | cons x xs =>
    simp only [val, List.headD_cons]
    rw [hq, Nat.mul_assoc, Nat.add_mul_mod_self_left]

theorem val_lowL {n : Nat} (hn : n < 32) {xs : List Nat} (hx : Limbs xs) : val (lowL n xs) = val xs / 2 ^ n := by
  obtain ⟨q, hq, hp, _⟩ := limb_pow hn
  induction xs with
  | nil => simp [lowL, val]
  | cons x xs ih =>
    have ih' := ih hx.tail
    have hx0 := hx.head
    have hm := val_mod_pow hn xs
    simp only [lowL, val]
    rw [ih']
    -- the rest below the power, of the limb above
    have hr : val xs = 2 ^ n * (val xs / 2 ^ n) + xs.headD 0 % 2 ^ n := by rw [← hm]; exact (Nat.div_add_mod _ _).symm
    have hh : xs.headD 0 = 2 ^ n * (xs.headD 0 / 2 ^ n) + xs.headD 0 % 2 ^ n := (Nat.div_add_mod _ _).symm
    have hlt : xs.headD 0 % 2 ^ n < 2 ^ n := Nat.mod_lt _ hp
    generalize xs.headD 0 % 2 ^ n = r at *
    generalize xs.headD 0 / 2 ^ n = s at *
    generalize val xs / 2 ^ n = Q at *
    have e1 : x + 4294967296 * xs.headD 0 = (x + 4294967296 * r) + 2 ^ n * (4294967296 * s) := by
      rw [hh, Nat.mul_add, Nat.mul_left_comm]
      omega
    have e2 : x + 4294967296 * val xs = (x + 4294967296 * r) + 2 ^ n * (4294967296 * Q) := by
      rw [hr, Nat.mul_add, Nat.mul_left_comm]
      omega
    rw [e1, e2, Nat.add_mul_div_left _ _ hp, Nat.add_mul_div_left _ _ hp, Nat.add_mul_mod_self_left]
    have h3 : (x + 4294967296 * r) / 2 ^ n < 4294967296 := by
      apply Nat.div_lt_of_lt_mul
      have := Nat.mul_le_mul_left 4294967296 (show r + 1 ≤ 2 ^ n from hlt)
      rw [Nat.mul_add, Nat.mul_comm (2 ^ n)] at *
      omega
    rw [Nat.mod_eq_of_lt h3]

/-- One step of a division by a power of 2, in place. -/
theorem low_step {P O : List Nat} {n k L : Nat} (hk : k < L) (hL : L ≤ O.length) (hl : P.length = O.length) (ht : P.take k = (lowL n (O.take L)).take k) {d : Nat}
    (hd : d = (O.getD k 0 + 4294967296 * (O.take L).getD (k + 1) 0) / 2 ^ n % 4294967296) : (P.set k d).take (k + 1) = (lowL n (O.take L)).take (k + 1) := by
  have hl2 : (lowL n (O.take L)).length = L := by rw [lowL_len, List.length_take, Nat.min_eq_left hL]
  rw [take_snoc _ _ (by rw [List.length_set]; omega), take_snoc (lowL n (O.take L)) k (by omega), List.take_set_of_le (Nat.le_refl k), ht, lowL_getD _ _ _ (by rw [List.length_take]; omega), getD_take _ _ _ hk, ← hd]
  congr 2
  simp [List.getD, show k < P.length by omega]

theorem take_getD_out (O : List Nat) (L k : Nat) (h : ¬ k < L) : (O.take L).getD k 0 = 0 := by
  simp [List.getD, List.getElem?_take, h]

theorem pow_split (n : Nat) : 2 ^ n = 4294967296 ^ (n / 32) * 2 ^ (n % 32) := by
  have : (4294967296 : Nat) = 2 ^ 32 := rfl
  rw [this, ← Nat.pow_mul, ← Nat.pow_add, Nat.div_add_mod]

theorem val_drop_div {xs : List Nat} (hx : Limbs xs) (k : Nat) : val (xs.drop k) = val xs / 4294967296 ^ k := by
  have h : val xs = val (xs.take k) + 4294967296 ^ (xs.take k).length * val (xs.drop k) := by
    conv => lhs; rw [← List.take_append_drop k xs, val_append]
  rcases Nat.lt_or_ge k xs.length with hk | hk
  · rw [List.length_take, Nat.min_eq_left (by omega)] at h
    have h2 := val_lt (hx.take k)
    rw [List.length_take, Nat.min_eq_left (by omega)] at h2
    rw [h, Nat.add_mul_div_left _ _ (Nat.pow_pos (by omega)), Nat.div_eq_of_lt h2, Nat.zero_add]
  · rw [List.drop_of_length_le hk]
    have h3 := val_lt hx
    have h4 : 4294967296 ^ xs.length ≤ 4294967296 ^ k := Nat.pow_le_pow_right (by omega) hk
    rw [Nat.div_eq_of_lt (by omega)]
    rfl

theorem div_pow_split (m n : Nat) : m / 2 ^ n = m / 4294967296 ^ (n / 32) / 2 ^ (n % 32) := by
  rw [pow_split n, Nat.div_div_eq_div_mul]

theorem val_zeros_append (k : Nat) (xs : List Nat) : val (List.replicate k 0 ++ xs) = 4294967296 ^ k * val xs := by
  rw [val_append, val_replicate, List.length_replicate, Nat.zero_add]

end Go.Proofs.YtijadodleiiomaaDoor
