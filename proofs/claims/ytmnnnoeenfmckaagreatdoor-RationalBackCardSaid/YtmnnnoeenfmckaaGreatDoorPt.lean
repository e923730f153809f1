/-
  The text of a number is read as the number.
-/
import Derived.Test.YtmnnnoeenfmckaaGreatDoorPs
import Derived.Test.YtmnnnoeenfmckaaGreatDoorBq
import Derived.WalkSpells
namespace Go.Proofs.YtmnnnoeenfmckaaGreatDoor
open Go.RowKit
open Go.Lib (decDigits)

theorem dec_digs (n : Nat) : digits (decDigits n) = true ∧ dval (decDigits n) = n := by
  induction n using Nat.strongRecOn with
  | _ n ih =>
    rw [decDigits]
    by_cases h : n < 10
    · rw [dif_pos h]
      have e : (UInt8.ofNat (48 + n)).toNat = 48 + n := by rw [UInt8.toNat_ofNat']; omega
      constructor
      · simp only [digits, List.all_cons, List.all_nil, Bool.and_true, isDig, e]
        simp; omega
      · simp only [dval, List.foldl_cons, List.foldl_nil, dnext, e]
        omega
    · rw [dif_neg h]
      have e : (UInt8.ofNat (48 + n % 10)).toNat = 48 + n % 10 := by rw [UInt8.toNat_ofNat']; omega
      obtain ⟨i1, i2⟩ := ih (n / 10) (by omega)
      constructor
      · have i1' := i1
        unfold digits at i1' ⊢
        rw [List.all_append, i1']
        simp only [List.all_cons, List.all_nil, Bool.and_true, Bool.true_and, isDig, e]
        simp; omega
      · rw [dval_snoc, i2, e]
        omega

theorem dec_posi (n : Nat) : 0 < (decDigits n).length := by
  rw [decDigits]
  split <;> simp

theorem digs_all {l : List UInt8} (h : digits l = true) : ∀ c ∈ l, isDig c = true := by
  unfold digits at h
  exact fun c hc => List.all_eq_true.1 h c hc
theorem take_digs {l q : List UInt8} (h : digits l = true) (hq : q.takeWhile isDig = []) : (l ++ q).takeWhile isDig = l := by
  rw [List.takeWhile_append_of_pos (digs_all h), hq, List.append_nil]
theorem drop_digs {l q : List UInt8} (h : digits l = true) (hq : q.dropWhile isDig = q) : (l ++ q).dropWhile isDig = q := by
  rw [List.dropWhile_append_of_pos (digs_all h), hq]
theorem dec_ne (n : Nat) : decDigits n ≠ [] := fun e => by
  have := dec_posi n
  rw [e] at this
  cases this
theorem no_sign {l : List UInt8} (h : digits l = true) (q : List UInt8) (h0 : l ≠ []) : Lib.hasPrefix (l ++ q) [45] = false ∧ Lib.trimPrefix (l ++ q) [45] = l ++ q := by
  cases l with
  | nil => exact absurd rfl h0
  | cons c r =>
    have hc := digs_all h c List.mem_cons_self
    have h1 : Lib.hasPrefix (c :: r ++ q) [45] = false := by
      show (45 == c && _) = false
      rw [beq_eq_false_iff_ne.2 (by rintro rfl; revert hc; decide), Bool.false_and]
    exact ⟨h1, by unfold Lib.trimPrefix; rw [if_neg (by rw [h1]; decide)]⟩
theorem sized_short {x : Rat} {j : Nat} (h : RSz j x) (hj : j ≤ 64) : sizedR x = (0, x) := by
  have h1 := bitsN_le h.1
  have h2 := bitsN_le h.2
  have h3 : max (bitsN x.num.natAbs) (bitsN x.den) ≤ 2048 := Nat.max_le.2 ⟨by omega, by omega⟩
  unfold sizedR longR
  rw [decide_eq_false (Nat.not_lt.2 h3), if_neg (by decide)]

theorem parse_body {x : Rat} {j : Nat} (h : RSz j x) (hj : j ≤ 64) (l : List UInt8) (hl : l = decDigits x.num.natAbs ++ (if x.den = 1 then [] else 47 :: decDigits x.den)) :
    bodyR (decide (x.num < 0)) (l.takeWhile isDig) (l.dropWhile isDig) = (0, x) := by
  obtain ⟨d1, d2⟩ := dec_digs x.num.natAbs
  have hself := ratOf_self x
  unfold bodyR
  by_cases h1 : x.den = 1
  · rw [if_pos h1] at hl
    rw [hl, take_digs d1 rfl, drop_digs d1 rfl, if_neg (dec_ne _), if_neg (by decide), if_neg (by decide), d2]
    unfold endR
    rw [if_pos (show expOk [] = true from rfl)]
    have e : tenR (decide (x.num < 0)) x.num.natAbs (0 + expV []) = x := by
      unfold tenR
      rw [show (0 : Int) + expV [] = 0 from rfl, if_neg (by decide), show (0 : Int).natAbs = 0 from rfl, Nat.pow_zero, Nat.mul_one]
      rw [h1] at hself
      exact hself
    rw [e]
    exact sized_short h hj
  · rw [if_neg h1] at hl
    obtain ⟨e1, e2⟩ := dec_digs x.den
    have hq1 : (47 :: decDigits x.den).takeWhile isDig = [] := rfl
    have hq2 : (47 :: decDigits x.den).dropWhile isDig = 47 :: decDigits x.den := rfl
    have hp : Lib.hasPrefix (47 :: decDigits x.den) [47] = true := by simp [Lib.hasPrefix]
    have ht : Lib.trimPrefix (47 :: decDigits x.den) [47] = decDigits x.den := by unfold Lib.trimPrefix; rw [if_pos hp]; rfl
    rw [hl, take_digs d1 hq1, drop_digs d1 hq2, if_neg (dec_ne _), if_pos hp, ht]
    unfold slashR
    have t1 := take_digs (q := []) e1 rfl
    have t2 := drop_digs (q := []) e1 rfl
    rw [List.append_nil] at t1 t2
    rw [t1, t2, if_neg (fun hh => hh.elim (dec_ne _) (fun hh => hh rfl)), e2, if_neg x.den_nz, d2, hself]
    exact sized_short h hj

theorem parse_text {x : Rat} {j : Nat} (h : RSz j x) (hj : j ≤ 64) : parseR (textR x) = (0, x) := by
  have l1 := dec_len9 h.1
  have l2 := dec_len9 h.2
  have hlen : (textR x).length ≤ 4096 := by
    unfold textR
    rw [List.length_append, List.length_append]
    have a1 : (if x.num < 0 then [45] else ([] : List UInt8)).length ≤ 1 := by split <;> decide
    have a2 : (if x.den = 1 then [] else 47 :: decDigits x.den).length ≤ 10 * j + 2 := by
      split
      · exact Nat.zero_le _
      · rw [List.length_cons]; omega
    omega
  unfold parseR
  rw [if_neg (by omega)]
  obtain ⟨l, hl⟩ : ∃ l, l = decDigits x.num.natAbs ++ (if x.den = 1 then [] else 47 :: decDigits x.den) := ⟨_, rfl⟩
  have hb := parse_body h hj l hl
  by_cases hn : x.num < 0
  · have ht : textR x = 45 :: l := by unfold textR; rw [if_pos hn, hl]; rfl
    have hp : Lib.hasPrefix (45 :: l) [45] = true := by simp [Lib.hasPrefix]
    have hq : Lib.trimPrefix (45 :: l) [45] = l := by unfold Lib.trimPrefix; rw [if_pos hp]; rfl
    rw [decide_eq_true hn] at hb
    rw [ht, hp, hq]
    exact hb
  · have ht : textR x = l := by unfold textR; rw [if_neg hn, hl]; rfl
    have hs := no_sign (dec_digs x.num.natAbs).1 (if x.den = 1 then [] else 47 :: decDigits x.den) (dec_ne _)
    rw [← hl] at hs
    rw [decide_eq_false hn] at hb
    rw [ht, hs.1, hs.2]
    exact hb
end Go.Proofs.YtmnnnoeenfmckaaGreatDoor
