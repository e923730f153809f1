/-
  Decimal digits from the lowest one up: plain mathematics.
-/
import Derived.Test.YtijadodleiiomaaDoorByLimb
namespace Go.Proofs.YtijadodleiiomaaDoor
open Go.RowKit
open Go.Lib (decDigits)

/-- The t lowest decimal digits, the lowest first. -/
def lows (n t : Nat) : List UInt8 := (List.range t).map (digit n)

theorem lows_len (n t : Nat) : (lows n t).length = t := by simp [lows]
theorem lows_succ (n t : Nat) : lows n (t + 1) = lows n t ++ [digit n t] := by simp [lows, List.range_succ]
theorem lows_at (n t i : Nat) (h : i < t) : (lows n t)[i]'(by rw [lows_len]; exact h) = digit n i := by
  unfold lows
  rw [List.getElem_map, List.getElem_range]

theorem pad_len (n t : Nat) : (pad t n).length = t := by simp [pad]
theorem pad_at (n t i : Nat) (h : i < t) : (pad t n)[i]'(by rw [pad_len]; exact h) = digit n (t - 1 - i) := by
  unfold pad
  rw [List.getElem_map, List.getElem_range]

theorem dec_lows {n t : Nat} (h0 : 0 < t) (h1 : n / 10 ^ t = 0) (h2 : n / 10 ^ (t - 1) ≠ 0) : decDigits n = pad t n := by
  obtain ⟨k, rfl⟩ : ∃ k, t = k + 1 := ⟨t - 1, by omega⟩
  rw [Nat.add_sub_cancel] at h2
  rw [Nat.pow_succ, ← Nat.div_div_eq_div_mul] at h1
  have hlt : n / 10 ^ k < 10 := by omega
  have hp : 0 < 10 ^ k := Nat.pow_pos (by omega)
  have hge : 10 ^ k ≤ n := by
    rcases Nat.lt_or_ge n (10 ^ k) with h | h
    · exact absurd (Nat.div_eq_of_lt h) h2
    · exact h
  rw [dec_pad k n hge, pad_succ, Go.Lib.decDigits_one hlt]
  unfold digit
  rw [Nat.mod_eq_of_lt hlt]
  rfl

theorem rev_step {D : List UInt8} {n T i : Nat} (hl : D.length = T) (hi : i < T) (hd : D.drop (T - i) = (pad T n).drop (T - i)) :
    (D.set (T - 1 - i) (digit n i)).drop (T - (i + 1)) = (pad T n).drop (T - (i + 1)) := by
  rw [show T - (i + 1) = T - 1 - i by omega]
  rw [List.drop_eq_getElem_cons (l := D.set (T - 1 - i) (digit n i)) (by rw [List.length_set]; omega), List.drop_eq_getElem_cons (l := pad T n) (by rw [pad_len]; omega), List.getElem_set_self, pad_at _ _ _ (by omega)]
  congr 1
  · rw [show T - 1 - (T - 1 - i) = i by omega]
  · rw [show T - 1 - i + 1 = T - i by omega, ← hd]
    apply List.ext_getElem?
    intro j
    rw [List.getElem?_drop, List.getElem?_drop, List.getElem?_set_ne (by omega)]

theorem rest_step {q r j s n : Nat} (hj : j < 9) (hr : r < 10 ^ (9 - j)) (h : q * 10 ^ (9 - j) + r = n / 10 ^ s) :
    r / 10 < 10 ^ (9 - (j + 1)) ∧ q * 10 ^ (9 - (j + 1)) + r / 10 = n / 10 ^ (s + 1) ∧ r % 10 = n / 10 ^ s % 10 := by
  obtain ⟨i, hi⟩ : ∃ i, 9 - j = i + 1 := ⟨8 - j, by omega⟩
  rw [show 9 - (j + 1) = i by omega]
  rw [hi, Nat.pow_succ] at hr h
  rw [Nat.pow_succ, ← Nat.div_div_eq_div_mul, ← h]
  rw [← Nat.mul_assoc]
  generalize q * 10 ^ i = a at *
  generalize 10 ^ i = b at *
  omega

theorem lt_ten {m k : Nat} (h : Sz k m) : m < 10 ^ (10 * k) := by
  refine Nat.lt_of_lt_of_le (lt_of_lt_pow h) ?_
  rw [Nat.pow_mul]
  exact Nat.pow_le_pow_left (by omega) k
where
  lt_of_lt_pow {m k : Nat} (h : Sz k m) : m < 4294967296 ^ k := Nat.lt_of_lt_of_le (toL_lt m) (Nat.pow_le_pow_right (by omega) h)

theorem digits_bound {n t D : Nat} (hn : n < 10 ^ D) (h : n / 10 ^ t ≠ 0) : t < D := by
  rcases Nat.lt_or_ge t D with e | e
  · exact e
  · exact absurd (Nat.div_eq_of_lt (Nat.lt_of_lt_of_le hn (Nat.pow_le_pow_right (by omega) e))) h

theorem src_val (w : World) (e : TypeId) (v : Value) : Src (w.alloc (.cells #[v] e)) (some ⟨w.heap.size, 0, none⟩) [v] := by
  refine fun _ => ⟨_, rfl, fun j u hu => ?_⟩
  have hj : j = 0 := by
    have := (List.getElem?_eq_some_iff.1 hu).1
    simp at this
    exact this
  subst hj
  rw [Addr.add_lit, cell_of_row (w.alloc (.cells #[v] e)) w.heap.size 0 _ e (0, 0) (heap_alloc_new w _)]
  simpa using hu

theorem OwnB.of_make {w : World} {base : Nat} {e : TypeId} {g n : Nat} (h : w.ownsRow base e 1 (.slice (some ⟨g, 0, none⟩) n n) n (madeCells #[.int .u8 0] (n * 1)).toList) : OwnB w e g (List.replicate n 0) := by
  rcases h.2 with ⟨h', _⟩ | ⟨g', cap', cur, h', hb, hg, hnc, hcm, hcs, htake⟩
  · simp at h'
  · simp only [Value.slice.injEq, Option.some.injEq, Addr.mk.injEq, and_true, true_and] at h'
    obtain ⟨rfl, rfl⟩ := h'
    unfold OwnB
    rw [hg]
    congr 2
    apply Array.ext'
    rw [List.take_of_length_le (by simp [hcs]), Nat.mul_one, toList_madeCells_one] at htake
    rw [htake]
    simp [Lib.byteCells]
end Go.Proofs.YtijadodleiiomaaDoor
