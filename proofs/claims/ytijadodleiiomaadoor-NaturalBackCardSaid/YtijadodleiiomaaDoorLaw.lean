/-
  The contracts as a law's text meets them: magnitudes by their numbers.
-/
import Derived.Test.YtijadodleiiomaaDoorAwake
import Derived.Test.YtijadodleiiomaaDoorAdd
namespace Go.Proofs.YtijadodleiiomaaDoor
open Go.RowKit

/-- The value v reads, in the world w, as the magnitude of the number n. -/
def M (w : World) (v : Value) (n : Nat) : Prop := Rd w v (toL n)

theorem M.kp {w w' : World} {v : Value} {n : Nat} (h : M w v n) (k : Kp w w') : M w' v n := Rd.kp h k

/-- The number n has at most k limbs. -/
def Sz (k n : Nat) : Prop := (toL n).length ≤ k

theorem Sz.mono {k j n : Nat} (h : Sz k n) (hj : k ≤ j) : Sz j n := Nat.le_trans h hj
theorem Sz.add {j k m n : Nat} (h : Sz j m) (h2 : Sz k n) : Sz (j + k + 1) (m + n) := by
  have := length_toL_add m n
  unfold Sz at *
  omega
theorem Sz.mul {j k m n : Nat} (h : Sz j m) (h2 : Sz k n) : Sz (j + k) (m * n) := by
  have := length_toL_mul m n
  unfold Sz at *
  omega
theorem Sz.le {k m n : Nat} (h : Sz k n) (hm : m ≤ n) : Sz k m := Nat.le_trans (length_mono m n hm) h
theorem Sz.val {xs : List Nat} (hx : Limbs xs) (k : Nat) (h : xs.length ≤ k) : Sz k (val xs) := by
  unfold Sz
  rw [toL_val hx]
  exact Nat.le_trans (length_trimL xs) h

theorem mag_m {w : World} {v : Value} {xs : List Nat} (h : Rd w v xs) (hl : xs.length ≤ 1099511627776) :
    Calls Tryd.prog 13 #[v] w fun e w' => ∃ v', e = .returned v' ∧ M w' v' (val xs) ∧ Kp w w' := mag_any v xs w h hl

theorem add_m {w : World} {a b : Value} {m n : Nat} (ha : M w a m) (hb : M w b n) {j k : Nat} (h1 : Sz j m) (h2 : Sz k n) (hj : j ≤ 1099511627776) (hk : k ≤ 1099511627776) :
    Calls Tryd.prog 25 #[a, b] w fun e w' => ∃ v', e = .returned v' ∧ M w' v' (m + n) ∧ Kp w w' := by
  have := add_any a b _ _ w ha hb (Nat.le_trans h1 hj) (Nat.le_trans h2 hk)
  rw [val_toL, val_toL] at this
  exact this

theorem mul_m {w : World} {a b : Value} {m n : Nat} (ha : M w a m) (hb : M w b n) {j k : Nat} (h1 : Sz j m) (h2 : Sz k n) (hj : j ≤ 1099511627776) (hk : k ≤ 1099511627776) :
    Calls Tryd.prog 27 #[a, b] w fun e w' => ∃ v', e = .returned v' ∧ M w' v' (m * n) ∧ Kp w w' := by
  have := mul_any a b _ _ w ha hb (Nat.le_trans h1 hj) (Nat.le_trans h2 hk)
  rw [val_toL, val_toL] at this
  exact this

theorem same_m {w : World} {a b : Value} {m n : Nat} (ha : M w a m) (hb : M w b n) (h : m = n) :
    Calls Tryd.prog 20 #[a, b] w fun e w' => e = .returned (.bool true) ∧ Kp w w' := by
  have := same_any a b _ _ w ha hb
  rw [decide_eq_true (show toL m = toL n by rw [h])] at this
  exact this

theorem light_yes {a b : Value} {xs ys : List Nat} {w : World} (ha : Rd w a xs) (hb : Rd w b ys) (h1 : xs.length ≤ 40) (h2 : ys.length ≤ 40) :
    Calls Tryd.prog 11 #[a, b] w fun e w' => e = .returned (.bool true) ∧ w = w' := by
  have := light_any a b xs ys w ha hb
  rw [decide_eq_true (show xs.length ≤ 40 ∧ ys.length ≤ 40 from ⟨h1, h2⟩)] at this
  exact this

theorem light_no {a b : Value} {xs ys : List Nat} {w : World} (ha : Rd w a xs) (hb : Rd w b ys) (h : ¬ (xs.length ≤ 40 ∧ ys.length ≤ 40)) :
    Calls Tryd.prog 11 #[a, b] w fun e w' => e = .returned (.bool false) ∧ w = w' := by
  have := light_any a b xs ys w ha hb
  rw [decide_eq_false h] at this
  exact this

end Go.Proofs.YtijadodleiiomaaDoor
