/-
  The reference's long division: plain mathematics.
-/
import Derived.Test.YtijadodleiiomaaDoorWindow
namespace Go.Proofs.YtijadodleiiomaaDoor

/-- The two highest limbs that can count. -/
theorem top_two {X : List Nat} (hX : Limbs X) {m : Nat} (hlt : val X < 4294967296 ^ (m + 2)) : X.getD (m + 1) 0 * 4294967296 + X.getD m 0 = val X / 4294967296 ^ m := by
  have h : val (X.drop (m + 1 + 1)) = 0 := by rw [val_drop_div hX]; exact Nat.div_eq_of_lt hlt
  rw [← val_drop_div hX m, val_drop_next X m, val_drop_next X (m + 1), h]
  omega

theorem top_limb (B : Nat) : (toL B).getD ((toL B).length - 1) 0 = B / 4294967296 ^ ((toL B).length - 1) := by
  have e := val_drop_div (limbs_toL B) ((toL B).length - 1)
  rw [val_toL] at e
  rw [← e, val_drop_next]
  have h : val ((toL B).drop ((toL B).length - 1 + 1)) = 0 := by
    rw [List.drop_of_length_le (by omega)]
    rfl
  rw [h]
  omega

/-- The guess of a digit is not too small. -/
theorem guess_ge {R B k j v : Nat} (hv : v = B / 4294967296 ^ j) (hv0 : 0 < v) : R / (B * 4294967296 ^ k) ≤ R / 4294967296 ^ (k + j) / v := by
  rw [Nat.div_div_eq_div_mul]
  refine Nat.div_le_div_left ?_ (Nat.mul_pos (Nat.pow_pos (by omega)) hv0)
  have h1 : v * 4294967296 ^ j ≤ B := by rw [hv]; exact Nat.div_mul_le_self _ _
  have h2 := Nat.mul_le_mul_right (4294967296 ^ k) h1
  rw [Nat.pow_add]
  generalize (4294967296 : Nat) ^ k = K at *
  generalize (4294967296 : Nat) ^ j = J at *
  have e : K * J * v = v * J * K := by grind
  omega

/-- A digit fits into a limb. -/
theorem digit_lt {R B k : Nat} (h : R < B * 4294967296 ^ (k + 1)) : R / (B * 4294967296 ^ k) < 4294967296 := by
  refine Nat.div_lt_of_lt_mul ?_
  rw [Nat.mul_assoc, ← Nat.pow_succ]
  exact h

theorem val_set_drop (Q : List Nat) (k d : Nat) (hk : k < Q.length) : val ((Q.set k d).drop k) = d + 4294967296 * val (Q.drop (k + 1)) := by
  rw [drop_cons _ k (by rw [List.length_set]; exact hk), drop_set_lt _ _ _ _ (by omega)]
  simp [val, List.getD, hk]

/-- A digit is taken away. -/
theorem digit_off {R0 R B k V d : Nat} (hB : 0 < B) (hd : d = R / (B * 4294967296 ^ k)) (hv : R0 = R + B * (4294967296 ^ (k + 1) * V)) :
    R - B * d * 4294967296 ^ k < B * 4294967296 ^ k ∧ R0 = (R - B * d * 4294967296 ^ k) + B * (4294967296 ^ k * (d + 4294967296 * V)) ∧ B * d * 4294967296 ^ k ≤ R := by
  have hK : 0 < B * 4294967296 ^ k := Nat.mul_pos hB (Nat.pow_pos (by omega))
  have h1 := Nat.div_add_mod R (B * 4294967296 ^ k)
  have h2 := Nat.mod_lt R hK
  rw [← hd] at h1
  have e1 : B * 4294967296 ^ k * d = B * d * 4294967296 ^ k := by rw [Nat.mul_right_comm]
  rw [e1] at h1
  refine ⟨by omega, ?_, by omega⟩
  rw [hv, Nat.pow_succ]
  generalize (4294967296 : Nat) ^ k = K at *
  have e2 : B * (K * (d + 4294967296 * V)) = B * d * K + B * (K * 4294967296 * V) := by grind
  omega

/-- Is the guess too great? -/
theorem guess_gt {R B k d : Nat} (hB : 0 < B) : R < B * d * 4294967296 ^ k ↔ R / (B * 4294967296 ^ k) < d := by
  rw [Nat.div_lt_iff_lt_mul (Nat.mul_pos hB (Nat.pow_pos (by omega)))]
  rw [show d * (B * 4294967296 ^ k) = B * d * 4294967296 ^ k by grind]

theorem guess_less {B d K : Nat} : B * (d + 1) * K - B * K = B * d * K := by
  rw [Nat.mul_add, Nat.mul_one, Nat.add_mul, Nat.add_sub_cancel]

/-- What the digits and the rest are. -/
theorem digits_end {A B s R V : Nat} (hB : 0 < B) (h : A * 2 ^ s = R + B * 2 ^ s * V) (hR : R < B * 2 ^ s) : V = A / B ∧ R / 2 ^ s = A % B := by
  have hp : 0 < (2 : Nat) ^ s := Nat.pow_pos (by omega)
  have h1 : A * 2 ^ s / (B * 2 ^ s) = V := by
    rw [h, Nat.add_mul_div_left _ _ (Nat.mul_pos hB hp), Nat.div_eq_of_lt hR, Nat.zero_add]
  have h2 : A * 2 ^ s % (B * 2 ^ s) = R := by
    rw [h, Nat.add_mul_mod_self_left, Nat.mod_eq_of_lt hR]
  rw [Nat.mul_div_mul_right _ _ hp] at h1
  rw [Nat.mul_mod_mul_right] at h2
  exact ⟨h1.symm, by rw [← h2, Nat.mul_div_cancel _ hp]⟩

end Go.Proofs.YtijadodleiiomaaDoor
