/-
  Greatest common divisors: plain mathematics: halving and subtracting, Lehmer's steps.
-/
import Derived.Test.YtijadodleiiomaaDoorShM
namespace Go.Proofs.YtijadodleiiomaaDoor

/-- Two numbers with the same common divisors have the same greatest one. -/
theorem gcd_same {a b c d : Nat} (h : ∀ k, (k ∣ a ∧ k ∣ b) ↔ (k ∣ c ∧ k ∣ d)) : Nat.gcd a b = Nat.gcd c d := by
  apply Nat.dvd_antisymm
  · have := (h (Nat.gcd a b)).1 ⟨Nat.gcd_dvd_left _ _, Nat.gcd_dvd_right _ _⟩
    exact Nat.dvd_gcd this.1 this.2
  · have := (h (Nat.gcd c d)).2 ⟨Nat.gcd_dvd_left _ _, Nat.gcd_dvd_right _ _⟩
    exact Nat.dvd_gcd this.1 this.2

theorem coprime_two_pow {u : Nat} (hu : u % 2 = 1) (k : Nat) : Nat.Coprime (2 ^ k) u := by
  apply Nat.Coprime.pow_left
  unfold Nat.Coprime
  have h1 : Nat.gcd 2 u ∣ 2 := Nat.gcd_dvd_left 2 u
  have h2 : Nat.gcd 2 u ∣ u := Nat.gcd_dvd_right 2 u
  have h3 := Nat.le_of_dvd (by omega) h1
  rcases Nat.lt_or_ge (Nat.gcd 2 u) 2 with h | h
  · have : 0 < Nat.gcd 2 u := Nat.gcd_pos_of_pos_left _ (by omega)
    omega
  · have e : Nat.gcd 2 u = 2 := by omega
    rw [e] at h2
    omega

/-- A power of 2 does not matter beside an odd number. -/
theorem gcd_odd_pow {u : Nat} (hu : u % 2 = 1) (k v : Nat) : Nat.gcd u (2 ^ k * v) = Nat.gcd u v := by
  rw [Nat.gcd_comm u, Nat.gcd_comm u]
  exact Nat.Coprime.gcd_mul_left_cancel v (coprime_two_pow hu k)

theorem gcd_pow_odd {u : Nat} (hu : u % 2 = 1) (k v : Nat) : Nat.gcd (2 ^ k * v) u = Nat.gcd v u := by
  rw [Nat.gcd_comm _ u, Nat.gcd_comm _ u]
  exact gcd_odd_pow hu k v

/-- The powers of 2 apart. -/
theorem gcd_twos {a b u v : Nat} (hu : u % 2 = 1) (hv : v % 2 = 1) : Nat.gcd (2 ^ a * u) (2 ^ b * v) = 2 ^ min a b * Nat.gcd u v := by
  rcases Nat.le_total a b with h | h
  · obtain ⟨c, rfl⟩ : ∃ c, b = a + c := ⟨b - a, by omega⟩
    rw [Nat.min_eq_left h, Nat.pow_add, Nat.mul_assoc, Nat.gcd_mul_left, gcd_odd_pow hu]
  · obtain ⟨c, rfl⟩ : ∃ c, a = b + c := ⟨a - b, by omega⟩
    rw [Nat.min_eq_right h, Nat.pow_add, Nat.mul_assoc, Nat.gcd_mul_left, gcd_pow_odd hv]

/-- One step of the halving: the less one, and half ways the difference. -/
theorem gcd_sub_step {x y : Nat} : Nat.gcd (min x y) (max x y - min x y) = Nat.gcd x y := by
  rcases Nat.le_total x y with h | h
  · rw [Nat.min_eq_left h, Nat.max_eq_right h]
    have := Nat.gcd_sub_self_right h
    exact this
  · rw [Nat.min_eq_right h, Nat.max_eq_left h, Nat.gcd_sub_self_right h, Nat.gcd_comm]

/-- What 2 divides how often, of the or of two numbers. -/
theorem or_twos {x y t m a u : Nat} (hx : x = 2 ^ a * u) (hu : u % 2 = 1) (h : x ||| y = 2 ^ t * (2 * m + 1)) : ∃ y', y = 2 ^ t * y' ∧ t ≤ a ∧ (t = a ∨ y' % 2 = 1) := by
  have hb : ∀ i, (x ||| y).testBit i = (x.testBit i || y.testBit i) := fun i => Nat.testBit_or x y i
  have low : ∀ i, i < t → x.testBit i = false ∧ y.testBit i = false := by
    intro i hi
    have h1 : (x ||| y).testBit i = false := by
      rw [h, Nat.mul_comm, Nat.testBit_mul_two_pow]
      simp
      omega
    rw [hb i] at h1
    simpa using h1
  have dvd : ∀ z : Nat, (∀ i, i < t → z.testBit i = false) → z = 2 ^ t * (z / 2 ^ t) := by
    intro z hz
    have h1 : z % 2 ^ t = 0 := by
      apply Nat.eq_of_testBit_eq
      intro i
      rw [Nat.testBit_mod_two_pow, Nat.zero_testBit]
      by_cases hi : i < t
      · simp [hz i hi]
      · simp [hi]
    have h2 := Nat.div_add_mod z (2 ^ t)
    rw [h1, Nat.add_zero] at h2
    exact h2.symm
  have hy := dvd y (fun i hi => (low i hi).2)
  have hta : t ≤ a := by
    rcases Nat.lt_or_ge a t with hlt | hge
    · have h1 := (low a hlt).1
      rw [hx, Nat.mul_comm, Nat.testBit_mul_two_pow] at h1
      simp [Nat.testBit_zero, hu] at h1
    · exact hge
  refine ⟨y / 2 ^ t, hy, hta, ?_⟩
  rcases Nat.lt_or_eq_of_le hta with hlt | he
  · right
    have h1 : (x ||| y).testBit t = true := by
      rw [h, Nat.mul_comm, Nat.testBit_mul_two_pow]
      simp [Nat.testBit_zero]
    rw [hb t] at h1
    have h2 : x.testBit t = false := by
      rw [hx, Nat.mul_comm, Nat.testBit_mul_two_pow]
      simp
      omega
    rw [h2, Bool.false_or] at h1
    rw [Nat.testBit_eq_decide_div_mod_eq] at h1
    simpa using h1
  · exact Or.inl he

/-- The greatest common divisor, the common powers of 2 apart. -/
theorem gcd_start {x y t m a u : Nat} (hx : x = 2 ^ a * u) (hu : u % 2 = 1) (h : x ||| y = 2 ^ t * (2 * m + 1)) : Nat.gcd x y = 2 ^ t * Nat.gcd u y := by
  obtain ⟨y', hy, hta, hor⟩ := or_twos hx hu h
  obtain ⟨c, rfl⟩ : ∃ c, a = t + c := ⟨a - t, by omega⟩
  rw [hx, hy, Nat.pow_add, Nat.mul_assoc, Nat.gcd_mul_left, gcd_odd_pow hu]
  congr 1
  rcases hor with e | e
  · obtain rfl : c = 0 := by omega
    rw [Nat.pow_zero, Nat.one_mul]
  · exact gcd_pow_odd e c u

theorem gcd_round {X Y b v : Nat} (hX : X % 2 = 1) (hY : Y = 2 ^ b * v) (hv : v % 2 = 1) :
    Nat.gcd (min X v) (max X v - min X v) = Nat.gcd X Y ∧ min X v % 2 = 1 ∧ max X v < X + Y := by
  have h1 : v ≤ Y := by
    rw [hY]
    exact Nat.le_mul_of_pos_left _ (Nat.pow_pos (by omega))
  refine ⟨?_, ?_, ?_⟩
  · rw [gcd_sub_step, hY, gcd_odd_pow hX]
  · rcases Nat.le_total X v with h | h
    · rw [Nat.min_eq_left h]; exact hX
    · rw [Nat.min_eq_right h]; exact hv
  · omega

end Go.Proofs.YtijadodleiiomaaDoor
