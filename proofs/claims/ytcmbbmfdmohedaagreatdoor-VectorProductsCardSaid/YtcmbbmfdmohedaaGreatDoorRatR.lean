/-
  The order and the rounding of rational numbers: what the laws ask of them.
-/
import Derived.Test.YtcmbbmfdmohedaaGreatDoorBa
namespace Go.Proofs.YtcmbbmfdmohedaaGreatDoor

theorem ord_neg (x y : Rat) : cmpR x y = -cmpR y x := by
  unfold cmpR
  split <;> split <;> (try split) <;> first | rfl | grind
theorem ord_zero {x y : Rat} : cmpR x y = 0 ↔ x = y := by
  unfold cmpR
  split <;> (try split) <;> grind
theorem sgn_cmp (x : Rat) : sgnR x = cmpR x 0 := by
  unfold sgnR cmpR
  have h1 : x < 0 ↔ x.num < 0 := by
    have := Rat.num_nonneg (q := x)
    rw [← Rat.not_le, ← this]; omega
  have h2 : x.num = 0 ↔ x = 0 := Rat.num_eq_zero
  by_cases h : x.num < 0
  · have : ¬ x.num = 0 := by omega
    rw [if_neg this, if_pos h, if_pos (h1.2 h)]
  · by_cases h0 : x.num = 0
    · rw [if_pos h0, if_neg (fun hh => h (h1.1 hh)), if_neg (by have := h2.1 h0; grind)]
    · rw [if_neg h0, if_neg h, if_neg (fun hh => h (h1.1 hh)), if_pos (by grind)]
theorem ord_sub (x y : Rat) : cmpR x y = sgnR (x - y) := by
  rw [sgn_cmp]
  unfold cmpR
  split <;> split <;> (try split) <;> first | rfl | grind
theorem ord_add (x y z : Rat) : cmpR (x + z) (y + z) = cmpR x y := by
  unfold cmpR
  split <;> split <;> (try split) <;> first | rfl | grind
theorem ord_mul (x y z : Rat) : cmpR (x * z) (y * z) = cmpR x y * sgnR z := by
  have key : ∀ a b c : Rat, a < b → 0 < c → a * c < b * c := fun a b c h h2 => by
    have := Rat.mul_pos (a := b - a) (b := c) (by grind) h2
    grind
  rw [sgn_cmp]
  rcases Std.lt_trichotomy z 0 with h2 | h2 | h2
  · rw [cmpR_lt h2]
    have e : ∀ a : Rat, a * z = -(a * -z) := fun a => by grind
    rcases Std.lt_trichotomy x y with h | h | h
    · have := key _ _ (-z) h (by grind)
      rw [cmpR_lt h, cmpR_gt (by rw [e x, e y]; grind)]; rfl
    · subst h; rw [cmpR_eq, cmpR_eq]; rfl
    · have := key _ _ (-z) h (by grind)
      rw [cmpR_gt h, cmpR_lt (by rw [e x, e y]; grind)]; rfl
  · subst h2
    rw [Rat.mul_zero, Rat.mul_zero, cmpR_eq, Int.mul_zero]
  · rw [cmpR_gt h2, Int.mul_one]
    rcases Std.lt_trichotomy x y with h | h | h
    · rw [cmpR_lt h, cmpR_lt (key _ _ _ h h2)]
    · subst h; rw [cmpR_eq, cmpR_eq]
    · rw [cmpR_gt h, cmpR_gt (key _ _ _ h h2)]

theorem pow2_pos (n : Nat) : (0 : Rat) < ((2 ^ n : Nat) : Rat) := by
  have : 0 < 2 ^ n := Nat.two_pow_pos n
  exact_mod_cast this
theorem down_le (x : Rat) (n : Nat) : downR x n ≤ x := by
  rw [downR_floor]
  have h := Rat.floor_le (x * ((2 ^ n : Nat) : Rat))
  have hp := pow2_pos n
  have hc := Rat.div_mul_cancel (a := ((x * ((2 ^ n : Nat) : Rat)).floor : Rat)) (b := ((2 ^ n : Nat) : Rat)) (by grind)
  generalize ((x * ((2 ^ n : Nat) : Rat)).floor : Rat) / ((2 ^ n : Nat) : Rat) = q at *
  rcases Std.lt_trichotomy x q with h1 | h1 | h1
  · have := Rat.mul_pos (a := q - x) (b := ((2 ^ n : Nat) : Rat)) (by grind) hp
    grind
  · grind
  · grind
theorem down_gt (x : Rat) (n : Nat) : x < downR x n + 1 / ((2 ^ n : Nat) : Rat) := by
  rw [downR_floor]
  have h := Rat.lt_floor_add_one (x * ((2 ^ n : Nat) : Rat))
  have hp := pow2_pos n
  rw [Rat.intCast_add] at h
  have hc := Rat.div_mul_cancel (a := ((x * ((2 ^ n : Nat) : Rat)).floor : Rat)) (b := ((2 ^ n : Nat) : Rat)) (by grind)
  have hd := Rat.div_mul_cancel (a := 1) (b := ((2 ^ n : Nat) : Rat)) (by grind)
  generalize ((x * ((2 ^ n : Nat) : Rat)).floor : Rat) / ((2 ^ n : Nat) : Rat) = q at *
  generalize 1 / ((2 ^ n : Nat) : Rat) = u at *
  have h1 : ((1 : Int) : Rat) = 1 := rfl
  rw [h1] at h
  rcases Std.lt_trichotomy x (q + u) with h2 | h2 | h2
  · exact h2
  · exfalso; have : (q + u) * ((2 ^ n : Nat) : Rat) = q * ((2 ^ n : Nat) : Rat) + u * ((2 ^ n : Nat) : Rat) := by grind
    grind
  · have := Rat.mul_pos (a := x - (q + u)) (b := ((2 ^ n : Nat) : Rat)) (by grind) hp
    grind
theorem up_ge (x : Rat) (n : Nat) : x ≤ upR x n := by
  unfold upR
  have := down_le (-x) n
  grind
theorem up_lt (x : Rat) (n : Nat) : upR x n < x + 1 / ((2 ^ n : Nat) : Rat) := by
  unfold upR
  have := down_gt (-x) n
  grind
theorem down_fix {x : Rat} {n : Nat} {z : Int} (h : x = (z : Rat) / ((2 ^ n : Nat) : Rat)) : downR x n = x := by
  rw [downR_floor, h]
  have hp := pow2_pos n
  rw [Rat.div_mul_cancel (by grind), Rat.floor_intCast]
theorem down_down (x : Rat) (n : Nat) : downR (downR x n) n = downR x n := down_fix (downR_floor x n)
theorem down_zero (x : Rat) : downR x 0 = (x.floor : Rat) := by
  rw [downR_floor]
  simp [Rat.div_def]
  grind
theorem lo_hi (x : Rat) (n : Nat) : downR x n = x ↔ upR x n = x := by
  have key : ∀ y : Rat, downR y n = y → downR (-y) n = -y := fun y h => by
    rw [downR_floor] at h
    refine down_fix (z := -(y * ((2 ^ n : Nat) : Rat)).floor) ?_
    rw [Rat.intCast_neg]
    grind
  unfold upR
  constructor
  · intro h; rw [key x h]; grind
  · intro h
    have := key (-x) (by grind)
    rw [show - -x = x by grind] at this
    exact this
theorem hi_lo (x : Rat) (n : Nat) : upR x n - downR x n ≤ ratOf false 1 (2 ^ n) := by
  have hp := pow2_pos n
  have h0 : ratOf false 1 (2 ^ n) = 1 / ((2 ^ n : Nat) : Rat) := by
    unfold ratOf sg
    rw [Rat.mkRat_eq_div]
    simp
  unfold upR
  rw [h0, downR_floor, downR_floor]
  have a1 := Rat.lt_floor_add_one (x * ((2 ^ n : Nat) : Rat))
  have a2 := Rat.lt_floor_add_one (-x * ((2 ^ n : Nat) : Rat))
  generalize (x * ((2 ^ n : Nat) : Rat)).floor = d at *
  generalize (-x * ((2 ^ n : Nat) : Rat)).floor = u at *
  rw [Rat.intCast_add] at a1 a2
  have h1 : ((1 : Int) : Rat) = 1 := rfl
  rw [h1] at a1 a2
  have a3 : (0 : Rat) < ((d + u + 2 : Int) : Rat) := by
    rw [Rat.intCast_add, Rat.intCast_add, show ((2 : Int) : Rat) = 2 from rfl]
    grind
  have a4 : (0 : Int) < d + u + 2 := by exact_mod_cast a3
  have a5 : ((0 : Int) : Rat) ≤ ((d + u + 1 : Int) : Rat) := Rat.intCast_le_intCast.2 (by omega)
  rw [Rat.intCast_add, Rat.intCast_add, h1, show ((0 : Int) : Rat) = 0 from rfl] at a5
  have hc := Rat.div_mul_cancel (a := (d : Rat)) (b := ((2 ^ n : Nat) : Rat)) (by grind)
  have hd := Rat.div_mul_cancel (a := (u : Rat)) (b := ((2 ^ n : Nat) : Rat)) (by grind)
  have he := Rat.div_mul_cancel (a := (1 : Rat)) (b := ((2 ^ n : Nat) : Rat)) (by grind)
  generalize (d : Rat) / ((2 ^ n : Nat) : Rat) = d1 at *
  generalize (u : Rat) / ((2 ^ n : Nat) : Rat) = u1 at *
  generalize 1 / ((2 ^ n : Nat) : Rat) = o1 at *
  rcases Std.lt_trichotomy (-u1 - d1) o1 with h2 | h2 | h2
  · grind
  · grind
  · have := Rat.mul_pos (a := -u1 - d1 - o1) (b := ((2 ^ n : Nat) : Rat)) (by grind) hp
    grind
theorem min_same (x y : Rat) : (if cmpR x y ≤ 0 then x else y) = (if cmpR y x < 0 then y else x) := by
  rw [ord_neg y x]
  by_cases h : cmpR x y ≤ 0
  · rw [if_pos h, if_neg (by omega)]
  · rw [if_neg h, if_pos (by omega)]
theorem max_same (x y : Rat) : (if 0 ≤ cmpR x y then x else y) = (if 0 < cmpR y x then y else x) := by
  rw [ord_neg y x]
  by_cases h : 0 ≤ cmpR x y
  · rw [if_pos h, if_neg (by omega)]
  · rw [if_neg h, if_pos (by omega)]
theorem cmp_bd (x y : Rat) : -1 ≤ cmpR x y ∧ cmpR x y ≤ 1 := by
  unfold cmpR
  split <;> (try split) <;> decide
theorem sgn_bd (x : Rat) : -1 ≤ sgnR x ∧ sgnR x ≤ 1 := by rw [sgn_cmp]; exact cmp_bd _ _
theorem mul_bd {a b : Int} (h : -1 ≤ a ∧ a ≤ 1) (h2 : -1 ≤ b ∧ b ≤ 1) : -1 ≤ a * b ∧ a * b ≤ 1 := by
  have h3 : a = -1 ∨ a = 0 ∨ a = 1 := by omega
  rcases h3 with rfl | rfl | rfl <;> omega
theorem same_cmp (x y : Rat) : decide (x = y) = (cmpR x y == 0) := by
  by_cases h : x = y
  · rw [decide_eq_true h, ord_zero.2 h]; rfl
  · rw [decide_eq_false h]; exact (beq_eq_false_iff_ne.2 (fun e => h (ord_zero.1 e))).symm
end Go.Proofs.YtcmbbmfdmohedaaGreatDoor
