/-
  Valid of any limbs, program and reference: one answer.
-/
import Derived.Test.YtmnnnoeenfmckaaGreatDoorQva
import Derived.Test.YtmnnnoeenfmckaaGreatDoorRva
import Derived.Test.YtmnnnoeenfmckaaGreatDoorBv
namespace Go.Proofs.YtmnnnoeenfmckaaGreatDoor
open Go.RowKit

/-- Whether limbs are a valid number. -/
def validOf (p : Bool) (xs ys : List Nat) : Bool :=
  if validB xs = false then false else if validB ys = false then false else if val ys = 1 then false else
    if val xs = 0 then (!p && decide (val ys = 0)) else (Nat.gcd (val xs) (if val ys = 0 then 1 else val ys) == 1)

theorem m_valid {w : World} {v : Value} {xs : List Nat} (h : Rd w v xs) (e : ¬ validB xs = false) : M w v (val xs) := by
  have e2 : validB xs = true := by cases h : validB xs <;> simp_all
  have e3 := of_decide_eq_true e2
  unfold M
  have ht : trimL xs = xs := by
    rcases Nat.eq_zero_or_pos xs.length with h0 | h0
    · rw [List.length_eq_zero_iff.1 h0]; rfl
    · have := trimL_stop xs xs.length h0 (Nat.le_refl _) (by rcases e3 with e3 | e3 <;> omega)
      rwa [List.take_length] at this
  rw [toL_val (rd_limbs h), ht]
  exact h

theorem den_size {ys : List Nat} (h : Limbs ys) (hl : ys.length ≤ 16) : (toL (if val ys = 0 then 1 else val ys)).length ≤ 16 := by
  by_cases e : val ys = 0
  · rw [if_pos e, toL_one]; decide
  · rw [if_neg e]; exact Sz.val h _ hl

theorem qvalid_raw {w : World} {p : Bool} {a b : Value} {xs ys : List Nat} (ha : Rd w a xs) (hb : Rd w b ys) (hl : xs.length ≤ 16) (hl2 : ys.length ≤ 16) (hT : Tz w) :
    Calls Tryz.prog 17 #[.agg #[.bool p, a, b]] w fun e w' => e = .returned (.bool (validOf p xs ys)) ∧ Kp w w' := by
  unfold validOf
  by_cases e : validB xs = false
  · rw [if_pos e]; exact valid_a ha hb e
  · rw [if_neg e]
    by_cases f : validB ys = false
    · rw [if_pos f]; exact valid_b ha hb (by cases h : validB xs <;> simp_all) f
    · rw [if_neg f]
      have ma := m_valid ha e
      have mb := m_valid hb f
      by_cases h1 : val ys = 1
      · rw [if_pos h1]; rw [h1] at mb; exact valid_c ma mb
      · rw [if_neg h1]
        by_cases h0 : val xs = 0
        · rw [if_pos h0]; rw [h0] at ma; exact valid_z ma mb h1
        · rw [if_neg h0]
          exact valid_g ma mb h0 h1 (j := 16) (Sz.val (rd_limbs ha) _ hl) (den_size (rd_limbs hb) hl2) (by decide) hT

theorem rqvalid_raw {w : World} {p : Bool} {a b : Value} {xs ys : List Nat} (ha : Rd w a xs) (hb : Rd w b ys) (hl : xs.length ≤ 16) (hl2 : ys.length ≤ 16) :
    Calls Tryz.prog 18 #[.agg #[.bool p, a, b]] w fun e w' => e = .returned (.bool (validOf p xs ys)) ∧ Kp w w' := by
  unfold validOf
  by_cases e : validB xs = false
  · rw [if_pos e]; exact rvalid_a ha hb e
  · rw [if_neg e]
    by_cases f : validB ys = false
    · rw [if_pos f]; exact rvalid_b ha hb (by cases h : validB xs <;> simp_all) f
    · rw [if_neg f]
      have ma := m_valid ha e
      have mb := m_valid hb f
      by_cases h1 : val ys = 1
      · rw [if_pos h1]; rw [h1] at mb; exact rvalid_c ma mb
      · rw [if_neg h1]
        by_cases h0 : val xs = 0
        · rw [if_pos h0]; rw [h0] at ma
          cases p with
          | true => exact rvalid_n ma mb h1 rfl
          | false =>
            by_cases hk : val ys = 0
            · rw [decide_eq_true hk]; rw [hk] at mb; exact rvalid_z ma mb rfl
            · rw [decide_eq_false hk]; exact rvalid_d ma mb h1 hk rfl
        · rw [if_neg h0]
          exact rvalid_g ma mb h0 h1 (j := 16) (Sz.val (rd_limbs ha) _ hl) (den_size (rd_limbs hb) hl2) (by decide)

theorem qvalid_any {w : World} {v : Value} {x : Rat} (h : RatV w v x) (hs : RSz 17 x) (hT : Tz w) :
    Calls Tryz.prog 17 #[v] w fun e w' => e = .returned (.bool true) ∧ Kp w w' := by
  by_cases h0 : x.num = 0
  · exact valid_zero h h0
  · exact valid_some h h0 hs (by decide) hT

/-- Norm's answer: the number and the code, the same on both sides. -/
def codeN (ys : List Nat) : Int := if val (denL ys) = 0 then 3 else 0
theorem qnorm_both {w : World} {p : Bool} {a b : Value} {xs ys : List Nat} (ha : Rd w a xs) (hb : Rd w b ys) (hl : xs.length ≤ 16) (hl2 : ys.length ≤ 16) (hT : Tz w) :
    Calls Tryz.prog 15 #[.agg #[.bool p, a, b]] w fun e w' => ∃ v, e = .returned (.tuple #[v, .int .i64 (codeN ys)]) ∧ RatV w' v (numR p xs ys) ∧ Kp w w' := by
  unfold numR codeN
  by_cases h : val (denL ys) = 0
  · rw [if_pos h, if_pos h]
    refine (norm_zero (p := p) ha hb (by omega) (by omega) h).mono ?_
    rintro e w' ⟨he, k⟩
    exact ⟨_, he, RatV.zero w', k⟩
  · rw [if_neg h, if_neg h]
    exact norm_some (p := p) ha hb (by omega) (by omega) h hT
theorem rqnorm_both {w : World} {p : Bool} {a b : Value} {xs ys : List Nat} (ha : Rd w a xs) (hb : Rd w b ys) (hl : xs.length ≤ 16) (hl2 : ys.length ≤ 16) :
    Calls Tryz.prog 16 #[.agg #[.bool p, a, b]] w fun e w' => ∃ v, e = .returned (.tuple #[v, .int .i64 (codeN ys)]) ∧ RatV w' v (numR p xs ys) ∧ Kp w w' := by
  unfold numR codeN
  by_cases h : val (denL ys) = 0
  · rw [if_pos h, if_pos h]
    refine (rqnorm_zero (p := p) ha hb (by omega) (by omega) h).mono ?_
    rintro e w' ⟨he, k⟩
    exact ⟨_, he, RatV.zero w', k⟩
  · rw [if_neg h, if_neg h]
    exact rqnorm_any (p := p) ha hb (by omega) (by omega) h
end Go.Proofs.YtmnnnoeenfmckaaGreatDoor
