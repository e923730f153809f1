/-
  The long division: plain mathematics.
-/
import Derived.Test.YtijadodleiiomaaDoorShM
namespace Go.Proofs.YtijadodleiiomaaDoor

theorem powB2 {n : Nat} (h : 1 ≤ n) : (4294967296 : Nat) ^ n = 4294967296 ^ (n - 1) * 4294967296 := by
  obtain ⟨k, rfl⟩ : ∃ k, n = k + 1 := ⟨n - 1, by omega⟩
  exact Nat.pow_succ _ _

/-- The number of a list, by its two highest limbs. -/
theorem val_two {V : List Nat} (hV : Limbs V) (h : 2 ≤ V.length) :
    ∃ l, l < 4294967296 ^ (V.length - 2) ∧ val V = (V.getD (V.length - 1) 0 * 4294967296 + V.getD (V.length - 2) 0) * 4294967296 ^ (V.length - 2) + l := by
  obtain ⟨n, hn⟩ : ∃ n, V.length = n + 2 := ⟨V.length - 2, by omega⟩
  have h1 := val_take_succ V (n + 1) (by omega)
  have h2 := val_take_succ V n (by omega)
  rw [List.take_of_length_le (by omega)] at h1
  have h3 := val_lt (hV.take n)
  rw [List.length_take, Nat.min_eq_left (by omega)] at h3
  rw [hn, show n + 2 - 2 = n by omega, show n + 2 - 1 = n + 1 by omega]
  refine ⟨val (V.take n), h3, ?_⟩
  rw [h1, h2, Nat.pow_succ, Nat.add_mul, Nat.mul_comm (V.getD n 0), Nat.mul_assoc (4294967296 ^ n), Nat.mul_comm (V.getD (n + 1) 0) 4294967296, Nat.mul_comm _ (4294967296 ^ n)]
  omega

/-- The guess of the three highest limbs and the two highest ones is the limb of the quotient, or 1 more. -/
theorem knuth_guess {N D W V l v K q g : Nat} (hV : V = D * K + v) (hv : v < K) (hW : W = N * K + l) (hl : l < K) (hD : 2147483648 ≤ D / 4294967296) (hq : q = W / V) (hqB : q < 4294967296) (hg : g = min (N / D) 4294967295) :
    q ≤ g ∧ g ≤ q + 1 := by
  have hD0 : 0 < D := by
    rcases Nat.eq_zero_or_pos D with h | h
    · rw [h] at hD; omega
    · exact h
  have hK0 : 0 < K := by omega
  have hV0 : 0 < V := by rw [hV]; exact Nat.lt_of_lt_of_le (Nat.mul_pos hD0 hK0) (Nat.le_add_right _ _)
  have hqV : q * V ≤ W := by rw [hq, Nat.mul_comm]; exact Nat.mul_div_le _ _
  constructor
  · have h1 : q * D ≤ N := by
      have e1 : q * D * K ≤ q * V := by rw [hV, Nat.mul_add, ← Nat.mul_assoc]; exact Nat.le_add_right _ _
      have e2 : q * D * K < (N + 1) * K := by rw [Nat.add_mul, Nat.one_mul]; omega
      exact Nat.le_of_lt_succ (Nat.lt_of_mul_lt_mul_right e2)
    have h2 : q ≤ N / D := (Nat.le_div_iff_mul_le hD0).2 h1
    omega
  · have h1 : g * D ≤ N := by
      have : g ≤ N / D := by rw [hg]; exact Nat.min_le_left _ _
      exact Nat.le_trans (Nat.mul_le_mul_right _ this) (Nat.div_mul_le_self _ _)
    have hg2 : g ≤ 4294967295 := by rw [hg]; exact Nat.min_le_right _ _
    have h2 : g * V ≤ W + V := by
      have e1 : g * V = g * D * K + g * v := by rw [hV, Nat.mul_add, ← Nat.mul_assoc]
      have e2 : g * D * K ≤ N * K := Nat.mul_le_mul_right _ h1
      have e3 : g * v ≤ 4294967295 * v := Nat.mul_le_mul_right _ hg2
      have e4 : 4294967295 * K ≤ D * K := Nat.mul_le_mul_right _ (by omega)
      have e5 : 4294967295 * v ≤ 4294967295 * K := Nat.mul_le_mul_left _ (Nat.le_of_lt hv)
      rw [e1, hW]
      omega
    rcases Nat.eq_zero_or_pos g with h | h
    · omega
    · have h3 : (g - 1) * V ≤ W := by
        rw [Nat.sub_mul, Nat.one_mul]
        omega
      have h4 : g - 1 ≤ q := by rw [hq]; exact (Nat.le_div_iff_mul_le hV0).2 h3
      omega

/-- One limb of the quotient: what the guess and the difference make. -/
theorem knuth_sub {h P0 P1 c g q V K W : Nat} (hW : W = h * K + P0) (hP1 : P1 < K) (hVK : V < K) (hV0 : 0 < V) (hq : q = W / V) (h1 : q ≤ g) (h2 : g ≤ q + 1) (hs : P1 + g * V = P0 + c * K) :
    (¬ h < c → g = q ∧ P1 = W % V) ∧ (h < c → g = q + 1 ∧ ∀ P2 c2, P2 < K → P2 + c2 * K = P1 + V → P2 = W % V) := by
  have hdm := Nat.div_add_mod W V
  have hlt := Nat.mod_lt W hV0
  rw [← hq] at hdm
  obtain ⟨R, hR⟩ : ∃ R, R = W % V := ⟨_, rfl⟩
  rw [← hR] at hdm hlt ⊢
  constructor
  · intro hn
    obtain ⟨d, rfl⟩ : ∃ d, h = c + d := ⟨h - c, by omega⟩
    have e1 : W = d * K + P1 + g * V := by rw [hW, Nat.add_mul]; omega
    have e2 : g = q := by
      rcases Nat.lt_or_ge q g with hlt2 | hge
      · have : g = q + 1 := by omega
        rw [this, Nat.add_mul, Nat.one_mul, Nat.mul_comm q] at e1
        omega
      · omega
    refine ⟨e2, ?_⟩
    rw [e2, Nat.mul_comm q] at e1
    have e3 : d * K + P1 = R := by omega
    rcases Nat.eq_zero_or_pos d with h0 | h0
    · rw [h0, Nat.zero_mul, Nat.zero_add] at e3
      exact e3
    · have := Nat.mul_le_mul_right K h0
      rw [Nat.one_mul] at this
      omega
  · intro hn
    obtain ⟨d, rfl⟩ : ∃ d, c = h + (d + 1) := ⟨c - h - 1, by omega⟩
    have e1 : W + (d + 1) * K = P1 + g * V := by rw [hW]; rw [Nat.add_mul] at hs; omega
    have e0 : (d + 1) * K = d * K + K := by rw [Nat.add_mul, Nat.one_mul]
    have e2 : g = q + 1 := by
      rcases Nat.lt_or_ge q g with hlt2 | hge
      · omega
      · have : g = q := by omega
        rw [this, Nat.mul_comm q] at e1
        omega
    refine ⟨e2, ?_⟩
    intro P2 c2 hP2 hb
    rw [e2, Nat.add_mul q 1 V, Nat.one_mul, e0, Nat.mul_comm q] at e1
    have e3 : R + (d * K + K) = P1 + V := by omega
    have hd : d = 0 := by
      rcases Nat.eq_zero_or_pos d with h0 | h0
      · exact h0
      · have := Nat.mul_le_mul_right K h0
        rw [Nat.one_mul] at this
        omega
    rw [hd, Nat.zero_mul, Nat.zero_add] at e3
    match c2, hb with
    | 0, hb => rw [Nat.zero_mul] at hb; omega
    | 1, hb => rw [Nat.one_mul] at hb; omega
    | k + 2, hb =>
      have := Nat.mul_le_mul_right K (show 2 ≤ k + 2 by omega)
      omega

theorem window_val {R : List Nat} {i n : Nat} (h : i + n < R.length) : val ((R.drop i).take n) + 4294967296 ^ n * R.getD (i + n) 0 = R.getD i 0 + 4294967296 * val ((R.drop (i + 1)).take n) := by
  have e1 := val_take_next (R.drop i) n
  have e2 : (R.drop i).take (n + 1) = R.getD i 0 :: (R.drop (i + 1)).take n := by
    rw [drop_cons R i (by omega), List.take_succ_cons]
  have e3 : (R.drop i).getD n 0 = R.getD (i + n) 0 := by simp [List.getD]
  rw [e2, e3] at e1
  simpa [val] using e1.symm

/-- The limbs of a quotient, one further down. -/
theorem digit_down {R0 R R' Q : List Nat} {i n V W : Nat} (hi : i < Q.length) (hi2 : i + n < R.length) (hl : R.length = R0.length) (ht : R.take (i + 1) = R0.take (i + 1))
    (hv : val (R0.drop (i + 1)) = val (Q.drop (i + 1)) * V + val ((R.drop (i + 1)).take n)) (hW : W = R.getD (i + n) 0 * 4294967296 ^ n + val ((R.drop i).take n)) (hr : val ((R'.drop i).take n) = W % V) :
    val (R0.drop i) = val ((Q.set i (W / V)).drop i) * V + val ((R'.drop i).take n) := by
  have e1 : R0.drop i = R.getD i 0 :: R0.drop (i + 1) := by rw [drop_cons R0 i (by omega), take_getD_eq ht]
  have e2 : (Q.set i (W / V)).drop i = W / V :: Q.drop (i + 1) := by
    rw [drop_cons _ _ (by rw [List.length_set]; exact hi), drop_set_lt _ _ _ _ (by omega)]
    congr 1
    simp [List.getD, hi]
  have e3 := window_val hi2
  have e4 := Nat.div_add_mod W V
  rw [e1, e2, hr]
  simp only [val]
  rw [hv]
  have e5 : W = R.getD i 0 + 4294967296 * val ((R.drop (i + 1)).take n) := by rw [hW, Nat.mul_comm, ← e3, Nat.add_comm]
  generalize val ((R.drop (i + 1)).take n) = A at *
  generalize val (Q.drop (i + 1)) = C at *
  rw [Nat.add_mul, Nat.mul_add, Nat.mul_assoc, Nat.mul_comm (W / V)]
  omega

/-- The remainder before a step, and the limb above: less than the divisor times a limb. -/
theorem digit_bound {R : List Nat} {i n V W : Nat} (hL : Limbs R) (hi2 : i + n < R.length) (hr : val ((R.drop (i + 1)).take n) < V) (hW : W = R.getD (i + n) 0 * 4294967296 ^ n + val ((R.drop i).take n)) : W / V < 4294967296 := by
  have e3 := window_val hi2
  have hx := hL.getD i
  refine Nat.div_lt_of_lt_mul ?_
  have e5 : W = R.getD i 0 + 4294967296 * val ((R.drop (i + 1)).take n) := by rw [hW, Nat.mul_comm, ← e3, Nat.add_comm]
  rw [e5]
  omega

theorem val_top {Y : List Nat} (h : 1 ≤ Y.length) : val Y = val (Y.take (Y.length - 1)) + 4294967296 ^ (Y.length - 1) * Y.getD (Y.length - 1) 0 := by
  have := val_take_succ Y (Y.length - 1) (by omega)
  rwa [show Y.length - 1 + 1 = Y.length by omega, List.take_of_length_le (Nat.le_refl _)] at this

/-- Raised so far that the highest bit of its highest limb is set. -/
theorem top_shift {Y : List Nat} {up p : Nat} (hY : Limbs Y) (h : 1 ≤ Y.length) (h1 : 2147483648 ≤ Y.getD (Y.length - 1) 0 * p) (h2 : (Y.getD (Y.length - 1) 0 + 1) * p ≤ 4294967296) (_h : p = 2 ^ up) :
    2147483648 * 4294967296 ^ (Y.length - 1) ≤ val Y * p ∧ val Y * p < 4294967296 ^ Y.length := by
  have h3 := val_lt (hY.take (Y.length - 1))
  rw [List.length_take, Nat.min_eq_left (by omega)] at h3
  rw [val_top h, powB2 h]
  generalize (4294967296 : Nat) ^ (Y.length - 1) = K at *
  generalize Y.getD (Y.length - 1) 0 = t at *
  generalize val (Y.take (Y.length - 1)) = A at *
  have hp : 0 < p := by
    rcases Nat.eq_zero_or_pos p with h | h
    · rw [h] at h1; omega
    · exact h
  have e1 : (A + K * t) * p = A * p + K * (t * p) := by rw [Nat.add_mul, Nat.mul_assoc]
  have e2 := Nat.mul_le_mul_left K h1
  have e3 := Nat.mul_le_mul_left K h2
  have e4 : A * p < K * p := Nat.mul_lt_mul_of_pos_right h3 hp
  have e5 : K * ((t + 1) * p) = K * (t * p) + K * p := by rw [Nat.add_mul, Nat.one_mul, Nat.mul_add]
  rw [e1, Nat.mul_comm 2147483648]
  rw [e5] at e3
  omega

theorem take_full {D : List Nat} {n : Nat} (hn : n ≤ D.length) (h : val D < 4294967296 ^ n) : val (D.take n) = val D := by
  have h1 : val D = val (D.take n) + 4294967296 ^ (D.take n).length * val (D.drop n) := by
    conv => lhs; rw [← List.take_append_drop n D, val_append]
  rw [List.length_take, Nat.min_eq_left hn] at h1
  rcases Nat.eq_zero_or_pos (val (D.drop n)) with h0 | h0
  · rw [h0, Nat.mul_zero, Nat.add_zero] at h1
    exact h1.symm
  · have := Nat.mul_le_mul_left (4294967296 ^ n) h0
    rw [Nat.mul_one] at this
    omega

theorem top_ge {V : List Nat} (hV : Limbs V) (h : 1 ≤ V.length) (h1 : 2147483648 * 4294967296 ^ (V.length - 1) ≤ val V) : 2147483648 ≤ V.getD (V.length - 1) 0 := by
  have h3 := val_lt (hV.take (V.length - 1))
  rw [List.length_take, Nat.min_eq_left (by omega)] at h3
  rw [val_top h] at h1
  generalize (4294967296 : Nat) ^ (V.length - 1) = K at *
  generalize V.getD (V.length - 1) 0 = t at *
  rcases Nat.lt_or_ge t 2147483648 with hlt | hge
  · have := Nat.mul_le_mul_left K (show t + 1 ≤ 2147483648 from hlt)
    rw [Nat.mul_add, Nat.mul_one, Nat.mul_comm K 2147483648] at this
    omega
  · exact hge

theorem first_rest {R X : List Nat} {n V p : Nat} (hX : Limbs X) (hR : Limbs R) (hl : R.length = X.length + 1) (hn : 1 ≤ n) (hnX : n ≤ X.length) (hv : val R = val X * p) (hp : p ≤ 2147483648) (hp0 : 0 < p) (hV : 2147483648 * 4294967296 ^ (n - 1) ≤ V) :
    val (R.drop (X.length - n + 1)) = 0 * V + val ((R.drop (X.length - n + 1)).take n) ∧ val ((R.drop (X.length - n + 1)).take n) < V := by
  rw [List.take_of_length_le (by rw [List.length_drop]; omega), Nat.zero_mul, Nat.zero_add]
  refine ⟨rfl, ?_⟩
  rw [val_drop_div hR, hv]
  refine Nat.div_lt_of_lt_mul ?_
  have h1 := val_lt hX
  have h2 : (4294967296 : Nat) ^ X.length = 4294967296 ^ (X.length - n + 1) * 4294967296 ^ (n - 1) := by
    rw [← Nat.pow_add]
    congr 1
    omega
  have h3 : val X * p < 4294967296 ^ X.length * p := Nat.mul_lt_mul_of_pos_right h1 hp0
  have h4 : 4294967296 ^ X.length * p ≤ 4294967296 ^ X.length * 2147483648 := Nat.mul_le_mul_left _ hp
  rw [h2, Nat.mul_assoc] at h3 h4
  have h5 := Nat.mul_le_mul_left (4294967296 ^ (X.length - n + 1)) hV
  rw [Nat.mul_comm 2147483648] at h5
  rw [Nat.mul_assoc] at h4
  omega

theorem long_fin {x y p q r R0 Rv : Nat} (hp : 0 < p) (h0 : R0 = x * p) (hv : R0 = q * (y * p) + Rv) (hr : Rv < y * p) (h : r = Rv / p) : q = x / y ∧ r = x % y := by
  have hy : 0 < y := by
    rcases Nat.eq_zero_or_pos y with h | h
    · rw [h, Nat.zero_mul] at hr; omega
    · exact h
  have e1 : q = R0 / (y * p) := by
    rw [hv, Nat.add_comm, Nat.add_mul_div_right _ _ (Nat.mul_pos hy hp), Nat.div_eq_of_lt hr, Nat.zero_add]
  have e2 : Rv = R0 % (y * p) := by
    rw [hv, Nat.add_comm, Nat.add_mul_mod_self_right, Nat.mod_eq_of_lt hr]
  rw [h0] at e1 e2
  rw [Nat.mul_div_mul_right _ _ hp] at e1
  rw [Nat.mul_mod_mul_right] at e2
  exact ⟨e1, by rw [h, e2, Nat.mul_div_cancel _ hp]⟩

end Go.Proofs.YtijadodleiiomaaDoor
