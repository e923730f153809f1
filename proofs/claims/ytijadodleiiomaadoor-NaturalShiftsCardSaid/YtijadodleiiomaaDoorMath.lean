/-
  Lists of limbs and the numbers for which they stand: plain mathematics, no program.
-/
namespace Go.Proofs.YtijadodleiiomaaDoor

/-- Every number is a limb. -/
def Limbs (xs : List Nat) : Prop := ∀ x ∈ xs, x < 4294967296

/-- The number of a list of limbs, the lowest first. -/
def val : List Nat → Nat
  | [] => 0
  | x :: xs => x + 4294967296 * val xs

/-- Without the zeros at the end. -/
def trimL : List Nat → List Nat
  | [] => []
  | x :: xs => if trimL xs = [] ∧ x = 0 then [] else x :: trimL xs

/-- The limbs of a number. -/
def toL (n : Nat) : List Nat := if n = 0 then [] else n % 4294967296 :: toL (n / 4294967296)
termination_by n
decreasing_by omega

theorem powB (n : Nat) : 4294967296 ^ (n + 1) = 4294967296 ^ n * 4294967296 := Nat.pow_succ _ _

theorem Limbs.take {xs : List Nat} (h : Limbs xs) (k : Nat) : Limbs (xs.take k) := fun x hx => h x (List.mem_of_mem_take hx)
theorem Limbs.drop {xs : List Nat} (h : Limbs xs) (k : Nat) : Limbs (xs.drop k) := fun x hx => h x (List.mem_of_mem_drop hx)
theorem Limbs.getD {xs : List Nat} (h : Limbs xs) (k : Nat) : xs.getD k 0 < 4294967296 := by
  by_cases hk : k < xs.length
  · have := h xs[k] (List.getElem_mem hk)
    simpa [List.getD, hk] using this
  · simp [List.getD, List.getElem?_eq_none (Nat.le_of_not_lt hk)]
theorem Limbs.tail {x : Nat} {xs : List Nat} (h : Limbs (x :: xs)) : Limbs xs := fun y hy => h y (List.mem_cons_of_mem _ hy)
theorem Limbs.head {x : Nat} {xs : List Nat} (h : Limbs (x :: xs)) : x < 4294967296 := h x (List.mem_cons_self)
theorem Limbs.nil : Limbs [] := fun _ h => by simp at h
theorem Limbs.cons {x : Nat} {xs : List Nat} (h : x < 4294967296) (hx : Limbs xs) : Limbs (x :: xs) := by
  intro y hy
  rcases List.mem_cons.1 hy with rfl | hy
  · exact h
  · exact hx y hy
theorem Limbs.set {xs : List Nat} (h : Limbs xs) (k v : Nat) (hv : v < 4294967296) : Limbs (xs.set k v) := by
  intro y hy
  rcases List.mem_or_eq_of_mem_set hy with hy | rfl
  · exact h y hy
  · exact hv
theorem Limbs.append {xs ys : List Nat} (h : Limbs xs) (k : Limbs ys) : Limbs (xs ++ ys) := by
  intro y hy
  rcases List.mem_append.1 hy with hy | hy
  · exact h y hy
  · exact k y hy
theorem Limbs.replicate (n : Nat) : Limbs (List.replicate n 0) := by
  intro y hy
  have := (List.mem_replicate.1 hy).2
  omega

theorem trimL_snoc_zero (xs : List Nat) : trimL (xs ++ [0]) = trimL xs := by
  induction xs with
  | nil => simp [trimL]
  | cons x xs ih => simp [trimL, ih]

theorem trimL_snoc (xs : List Nat) (x : Nat) (h : x ≠ 0) : trimL (xs ++ [x]) = xs ++ [x] := by
  induction xs with
  | nil => simp [trimL, h]
  | cons y xs ih => simp [trimL, ih]

theorem take_snoc (xs : List Nat) (k : Nat) (h : k < xs.length) : xs.take (k + 1) = xs.take k ++ [xs.getD k 0] := by
  rw [List.take_succ_eq_append_getElem h]
  simp [List.getD, h]

theorem trimL_step (xs : List Nat) (k : Nat) (hk : 0 < k) (h : k ≤ xs.length) (h0 : xs.getD (k - 1) 0 = 0) : trimL (xs.take k) = trimL (xs.take (k - 1)) := by
  obtain ⟨j, rfl⟩ : ∃ j, k = j + 1 := ⟨k - 1, by omega⟩
  rw [Nat.add_sub_cancel] at h0 ⊢
  rw [take_snoc xs j (by omega), h0]
  exact trimL_snoc_zero _

theorem trimL_stop (xs : List Nat) (k : Nat) (hk : 0 < k) (h : k ≤ xs.length) (h0 : xs.getD (k - 1) 0 ≠ 0) : trimL (xs.take k) = xs.take k := by
  obtain ⟨j, rfl⟩ : ∃ j, k = j + 1 := ⟨k - 1, by omega⟩
  rw [Nat.add_sub_cancel] at h0
  rw [take_snoc xs j (by omega)]
  exact trimL_snoc _ _ h0

theorem trimL_take (xs : List Nat) : xs.take (trimL xs).length = trimL xs := by
  induction xs with
  | nil => rfl
  | cons x xs ih =>
    unfold trimL
    split
    · rfl
    · simp [ih]

theorem val_append (xs ys : List Nat) : val (xs ++ ys) = val xs + 4294967296 ^ xs.length * val ys := by
  induction xs with
  | nil => simp [val]
  | cons x xs ih =>
    simp only [List.cons_append, val, ih, List.length_cons, Nat.pow_succ, Nat.mul_add]
    have : 4294967296 ^ xs.length * 4294967296 * val ys = 4294967296 * (4294967296 ^ xs.length * val ys) := by
      rw [Nat.mul_comm (4294967296 ^ xs.length) 4294967296, Nat.mul_assoc]
    omega

theorem val_snoc (xs : List Nat) (x : Nat) : val (xs ++ [x]) = val xs + 4294967296 ^ xs.length * x := by
  rw [val_append]; simp [val]

theorem val_take_succ (xs : List Nat) (k : Nat) (h : k < xs.length) : val (xs.take (k + 1)) = val (xs.take k) + 4294967296 ^ k * xs.getD k 0 := by
  rw [take_snoc xs k h, val_snoc, List.length_take, Nat.min_eq_left (by omega)]

theorem val_take_next (xs : List Nat) (k : Nat) : val (xs.take (k + 1)) = val (xs.take k) + 4294967296 ^ k * xs.getD k 0 := by
  by_cases h : k < xs.length
  · exact val_take_succ xs k h
  · have h0 : xs.getD k 0 = 0 := by simp [List.getD, List.getElem?_eq_none (Nat.le_of_not_lt h)]
    rw [h0, List.take_of_length_le (by omega), List.take_of_length_le (by omega)]
    simp

theorem val_set_take (O : List Nat) (k v : Nat) (h : k < O.length) : val ((O.set k v).take (k + 1)) = val (O.take k) + 4294967296 ^ k * v := by
  rw [val_take_next, List.take_set_of_le (Nat.le_refl k)]
  simp [List.getD, h]

theorem add_step {O xs ys : List Nat} {k c x y : Nat} (hk : k < O.length) (hv : val (O.take k) + 4294967296 ^ k * c = val (xs.take k) + val (ys.take k)) (hx : x = xs.getD k 0) (hy : y = ys.getD k 0) :
    val ((O.set k ((c + x + y) % 4294967296)).take (k + 1)) + 4294967296 ^ (k + 1) * ((c + x + y) / 4294967296) = val (xs.take (k + 1)) + val (ys.take (k + 1)) := by
  rw [val_set_take _ _ _ hk, val_take_next xs, val_take_next ys, ← hx, ← hy, powB k, Nat.mul_assoc]
  have e : 4294967296 ^ k * ((c + x + y) % 4294967296) + 4294967296 ^ k * (4294967296 * ((c + x + y) / 4294967296)) = 4294967296 ^ k * c + 4294967296 ^ k * x + 4294967296 ^ k * y := by
    rw [← Nat.mul_add, Nat.mod_add_div, Nat.mul_add, Nat.mul_add]
  omega

theorem add_fin {O xs ys : List Nat} {c : Nat} (hO : O.length = xs.length + 1) (hl : ys.length ≤ xs.length) (hv : val (O.take xs.length) + 4294967296 ^ xs.length * c = val (xs.take xs.length) + val (ys.take xs.length)) :
    val (O.set xs.length c) = val xs + val ys := by
  have h1 := val_set_take O xs.length c (by omega)
  rw [List.take_of_length_le (by rw [List.length_set]; omega)] at h1
  rw [List.take_of_length_le (Nat.le_refl xs.length), List.take_of_length_le hl] at hv
  rw [h1, hv]

/-- One step of a row of the long multiplication. -/
theorem mul_step {O O0 ys : List Nat} {i j c x y o : Nat} (hk : i + j < O.length) (hd : O.drop (i + j) = O0.drop (i + j)) (ho : o = O.getD (i + j) 0) (hy : y = ys.getD j 0)
    (hv : val (O.take (i + j)) + 4294967296 ^ (i + j) * c = val (O0.take (i + j)) + 4294967296 ^ i * (x * val (ys.take j))) :
    val ((O.set (i + j) ((c + (x * y + o)) % 4294967296)).take (i + (j + 1))) + 4294967296 ^ (i + (j + 1)) * ((c + (x * y + o)) / 4294967296) =
      val (O0.take (i + (j + 1))) + 4294967296 ^ i * (x * val (ys.take (j + 1))) := by
  have e0 : O0.getD (i + j) 0 = o := by
    rw [ho]
    have h1 : (O.drop (i + j))[0]? = (O0.drop (i + j))[0]? := by rw [hd]
    simp only [List.getElem?_drop, Nat.add_zero] at h1
    simp [List.getD, h1]
  rw [← Nat.add_assoc, val_set_take _ _ _ hk, val_take_next O0, val_take_next ys, e0, ← hy, powB (i + j), Nat.mul_assoc]
  have e : 4294967296 ^ (i + j) * ((c + (x * y + o)) % 4294967296) + 4294967296 ^ (i + j) * (4294967296 * ((c + (x * y + o)) / 4294967296)) = 4294967296 ^ (i + j) * c + 4294967296 ^ (i + j) * (x * y) + 4294967296 ^ (i + j) * o := by
    rw [← Nat.mul_add, Nat.mod_add_div, Nat.mul_add, Nat.mul_add, Nat.add_assoc]
  have e2 : 4294967296 ^ i * (x * (val (ys.take j) + 4294967296 ^ j * y)) = 4294967296 ^ i * (x * val (ys.take j)) + 4294967296 ^ (i + j) * (x * y) := by
    rw [Nat.mul_add, Nat.mul_add, Nat.pow_add]
    congr 1
    rw [Nat.mul_left_comm x, Nat.mul_assoc]
  omega

theorem drop_set_lt (O : List Nat) (k j v : Nat) (h : k < j) : (O.set k v).drop j = O.drop j := by
  apply List.ext_getElem?
  intro i
  rw [List.getElem?_drop, List.getElem?_drop, List.getElem?_set_ne (by omega)]

theorem drop_next {O O0 : List Nat} {k : Nat} (h : O.drop k = O0.drop k) (v : Nat) : (O.set k v).drop (k + 1) = O0.drop (k + 1) := by
  rw [drop_set_lt _ _ _ _ (by omega), ← List.drop_drop, ← List.drop_drop, h]

theorem mul_fin {O O0 xs ys : List Nat} {i c x : Nat} (hk : i + ys.length < O.length) (hx : x = xs.getD i 0)
    (hv : val (O.take (i + ys.length)) + 4294967296 ^ (i + ys.length) * c = val (O0.take (i + ys.length)) + 4294967296 ^ i * (x * val (ys.take ys.length)))
    (h0 : val (O0.take (i + ys.length)) = val (xs.take i) * val ys) :
    val ((O.set (i + ys.length) c).take (i + 1 + ys.length)) = val (xs.take (i + 1)) * val ys := by
  rw [show i + 1 + ys.length = (i + ys.length) + 1 by omega, val_set_take _ _ _ hk, hv, h0, List.take_of_length_le (Nat.le_refl _), val_take_next, ← hx, Nat.add_mul, Nat.mul_assoc]

theorem getD_take (xs : List Nat) (k i : Nat) (h : i < k) : (xs.take k).getD i 0 = xs.getD i 0 := by simp [List.getD, h]

theorem drop_cons (xs : List Nat) (i : Nat) (h : i < xs.length) : xs.drop i = xs.getD i 0 :: xs.drop (i + 1) := by
  rw [List.drop_eq_getElem_cons h]
  simp [List.getD, h]

theorem take_getD_eq {P O : List Nat} {i : Nat} (h : P.take (i + 1) = O.take (i + 1)) : P.getD i 0 = O.getD i 0 := by
  rw [← getD_take P (i + 1) i (by omega), ← getD_take O (i + 1) i (by omega), h]

theorem take_less {P O : List Nat} {i j : Nat} (h : P.take j = O.take j) (hi : i ≤ j) : P.take i = O.take i := by
  have := congrArg (List.take i) h
  rwa [List.take_take, List.take_take, Nat.min_eq_left hi] at this

/-- One step of a division by one limb, from the highest limb down. -/
theorem div_step {O P : List Nat} {i k r x d : Nat} (hik : i < k) (hk : k ≤ O.length) (hl : P.length = O.length) (_hd : 0 < d) (ht : P.take (i + 1) = O.take (i + 1)) (hx : x = P.getD i 0)
    (hv : val ((O.take k).drop (i + 1)) = val ((P.take k).drop (i + 1)) * d + r) :
    val ((O.take k).drop i) = val (((P.set i ((r * 4294967296 + x) / d)).take k).drop i) * d + (r * 4294967296 + x) % d := by
  have e1 : (O.take k).drop i = x :: (O.take k).drop (i + 1) := by
    rw [drop_cons _ _ (by simp; omega), getD_take _ _ _ hik, ← take_getD_eq ht, ← hx]
  have e2 : ((P.set i ((r * 4294967296 + x) / d)).take k).drop i = ((r * 4294967296 + x) / d) :: (P.take k).drop (i + 1) := by
    rw [drop_cons _ _ (by simp; omega), getD_take _ _ _ hik, List.take_set, drop_set_lt _ _ _ _ (by omega)]
    congr 1
    simp [List.getD]
    rw [List.getElem?_set_self (by omega)]
    rfl
  rw [e1, e2]
  simp only [val]
  rw [hv]
  have := Nat.div_add_mod (r * 4294967296 + x) d
  generalize (r * 4294967296 + x) / d = q at *
  generalize (r * 4294967296 + x) % d = m at *
  generalize val ((P.take k).drop (i + 1)) = V at *
  rw [Nat.add_mul, Nat.mul_add, Nat.mul_assoc, Nat.mul_comm q d]
  omega

theorem div_fin {O P : List Nat} {k r d : Nat} (hr : r < d) (hv : val ((O.take k).drop 0) = val ((P.take k).drop 0) * d + r) : val (P.take k) = val (O.take k) / d ∧ r = val (O.take k) % d := by
  rw [List.drop_zero, List.drop_zero] at hv
  rw [hv]
  refine ⟨?_, ?_⟩
  · rw [Nat.add_comm, Nat.add_mul_div_right _ _ (by omega), Nat.div_eq_of_lt hr, Nat.zero_add]
  · rw [Nat.add_comm, Nat.add_mul_mod_self_right, Nat.mod_eq_of_lt hr]

theorem val_trimL (xs : List Nat) : val (trimL xs) = val xs := by
  induction xs with
  | nil => rfl
  | cons x xs ih =>
    unfold trimL
    split
    · rename_i h
      rw [h.1] at ih
      simp [val] at ih
      simp [val, h.2, ← ih]
    · simp [val, ih]

theorem limbs_trimL {xs : List Nat} (h : Limbs xs) : Limbs (trimL xs) := by
  induction xs with
  | nil => exact h
  | cons x xs ih =>
    unfold trimL
    split
    · exact Limbs.nil
    · exact Limbs.cons h.head (ih h.tail)

theorem length_trimL (xs : List Nat) : (trimL xs).length ≤ xs.length := by
  induction xs with
  | nil => exact Nat.le_refl _
  | cons x xs ih =>
    unfold trimL
    split
    · simp
    · simp; omega

theorem toL_zero : toL 0 = [] := by unfold toL; simp
theorem toL_pos (n : Nat) (h : n ≠ 0) : toL n = n % 4294967296 :: toL (n / 4294967296) := by
  conv => lhs; unfold toL
  simp [h]

theorem val_toL (n : Nat) : val (toL n) = n := by
  induction n using Nat.strongRecOn with
  | _ n ih =>
    by_cases h : n = 0
    · subst h; rw [toL_zero]; rfl
    · rw [toL_pos n h, val, ih _ (by omega)]
      omega

theorem limbs_toL (n : Nat) : Limbs (toL n) := by
  induction n using Nat.strongRecOn with
  | _ n ih =>
    by_cases h : n = 0
    · subst h; rw [toL_zero]; exact Limbs.nil
    · rw [toL_pos n h]
      exact Limbs.cons (by omega) (ih _ (by omega))

theorem toL_nil_iff (n : Nat) : toL n = [] ↔ n = 0 := by
  by_cases h : n = 0
  · subst h; simp [toL_zero]
  · simp [toL_pos n h, h]

/-- The limbs of the number of a list: the list without the zeros at its end. -/
theorem toL_val {xs : List Nat} (h : Limbs xs) : toL (val xs) = trimL xs := by
  induction xs with
  | nil => simp [val, trimL, toL_zero]
  | cons x xs ih =>
    have hx := h.head
    have ih' := ih h.tail
    unfold trimL
    by_cases hz : trimL xs = [] ∧ x = 0
    · rw [if_pos hz]
      have h0 : val xs = 0 := by rw [← val_trimL, hz.1]; rfl
      simp [val, hz.2, h0, toL_zero]
    · rw [if_neg hz]
      have hv : val (x :: xs) ≠ 0 := by
        intro e
        simp only [val] at e
        have h1 : val xs = 0 := by omega
        have h2 : x = 0 := by omega
        apply hz
        refine ⟨?_, h2⟩
        rw [← ih', h1, toL_zero]
      rw [toL_pos _ hv, ← ih']
      simp only [val]
      congr 1
      · omega
      · congr 1; omega

theorem trimL_toL (n : Nat) : trimL (toL n) = toL n := by
  have := toL_val (limbs_toL n)
  rw [val_toL] at this
  exact this.symm

theorem val_lt {xs : List Nat} (h : Limbs xs) : val xs < 4294967296 ^ xs.length := by
  induction xs with
  | nil => simp [val]
  | cons x xs ih =>
    have h1 := ih h.tail
    have h2 := h.head
    simp only [val, List.length_cons, Nat.pow_succ]
    have : 4294967296 * val xs + 4294967296 ≤ 4294967296 ^ xs.length * 4294967296 := by
      have := Nat.mul_le_mul_right 4294967296 (show val xs + 1 ≤ 4294967296 ^ xs.length from h1)
      omega
    omega

theorem length_toL_le (n k : Nat) (h : n < 4294967296 ^ k) : (toL n).length ≤ k := by
  induction k generalizing n with
  | zero =>
    have : n = 0 := by simpa using h
    subst this
    simp [toL_zero]
  | succ k ih =>
    by_cases h0 : n = 0
    · subst h0; simp [toL_zero]
    · rw [toL_pos n h0]
      simp only [List.length_cons]
      have : n / 4294967296 < 4294967296 ^ k := by
        rw [Nat.pow_succ] at h
        exact Nat.div_lt_of_lt_mul (by rw [Nat.mul_comm]; exact h)
      have := ih _ this
      omega

theorem toL_lt (n : Nat) : n < 4294967296 ^ (toL n).length := by
  have := val_lt (limbs_toL n)
  rwa [val_toL] at this

theorem toL_last (n : Nat) (h : n ≠ 0) : 4294967296 ^ ((toL n).length - 1) ≤ n := by
  induction n using Nat.strongRecOn with
  | _ n ih =>
    rw [toL_pos n h]
    simp only [List.length_cons, Nat.add_sub_cancel]
    by_cases h0 : n / 4294967296 = 0
    · rw [h0, toL_zero]; simp; omega
    · have := ih _ (by omega) h0
      have hl : 0 < (toL (n / 4294967296)).length := by
        rw [toL_pos _ h0]; simp
      obtain ⟨j, hj⟩ : ∃ j, (toL (n / 4294967296)).length = j + 1 := ⟨_, (Nat.succ_pred_eq_of_pos hl).symm⟩
      rw [hj] at this ⊢
      rw [Nat.add_sub_cancel] at this
      rw [Nat.pow_succ]
      exact Nat.le_trans (Nat.mul_le_mul_right 4294967296 this) (Nat.div_mul_le_self n 4294967296)

theorem length_mono (m n : Nat) (h : m ≤ n) : (toL m).length ≤ (toL n).length := length_toL_le m _ (Nat.lt_of_le_of_lt h (toL_lt n))

theorem length_toL_add (m n : Nat) : (toL (m + n)).length ≤ (toL m).length + (toL n).length + 1 := by
  apply length_toL_le
  have h1 := toL_lt m
  have h2 := toL_lt n
  have p1 : 4294967296 ^ (toL m).length ≤ 4294967296 ^ ((toL m).length + (toL n).length) := Nat.pow_le_pow_right (by omega) (by omega)
  have p2 : 4294967296 ^ (toL n).length ≤ 4294967296 ^ ((toL m).length + (toL n).length) := Nat.pow_le_pow_right (by omega) (by omega)
  refine Nat.lt_of_lt_of_le ?_ (Nat.le_of_eq (powB ((toL m).length + (toL n).length)).symm)
  generalize 4294967296 ^ ((toL m).length + (toL n).length) = X at *
  generalize 4294967296 ^ (toL m).length = Y at *
  generalize 4294967296 ^ (toL n).length = Z at *
  omega

theorem length_toL_mul (m n : Nat) : (toL (m * n)).length ≤ (toL m).length + (toL n).length := by
  apply length_toL_le
  rw [Nat.pow_add]
  exact Nat.mul_lt_mul'' (toL_lt m) (toL_lt n)

theorem val_set (xs : List Nat) (k v : Nat) (h : k < xs.length) : val (xs.set k v) + 4294967296 ^ k * xs.getD k 0 = val xs + 4294967296 ^ k * v := by
  induction xs generalizing k with
  | nil => simp at h
  | cons x xs ih =>
    cases k with
    | zero => simp [val]; omega
    | succ k =>
      have := ih k (by simpa using h)
      simp only [List.set_cons_succ, val, Nat.pow_succ, List.getD_cons_succ]
      have e1 : 4294967296 ^ k * 4294967296 * xs.getD k 0 = 4294967296 * (4294967296 ^ k * xs.getD k 0) := by
        rw [Nat.mul_comm (4294967296 ^ k) 4294967296, Nat.mul_assoc]
      have e2 : 4294967296 ^ k * 4294967296 * v = 4294967296 * (4294967296 ^ k * v) := by
        rw [Nat.mul_comm (4294967296 ^ k) 4294967296, Nat.mul_assoc]
      omega

theorem val_replicate (n : Nat) : val (List.replicate n 0) = 0 := by
  induction n with
  | zero => rfl
  | succ n ih => simp [List.replicate_succ, val, ih]

/-- The order of two numbers, as a number. -/
def cmpv (m n : Nat) : Int := if m < n then -1 else if n < m then 1 else 0

theorem cmpv_lt {m n : Nat} (h : m < n) : cmpv m n = -1 := if_pos h
theorem cmpv_gt {m n : Nat} (h : n < m) : cmpv m n = 1 := by unfold cmpv; rw [if_neg (by omega), if_pos h]
theorem cmpv_eq {m n : Nat} (h : m = n) : cmpv m n = 0 := by unfold cmpv; rw [if_neg (by omega), if_neg (by omega)]

theorem lt_of_length {xs ys : List Nat} (hx : Limbs xs) (hy : Limbs ys) (h : (trimL xs).length < (trimL ys).length) : val xs < val ys := by
  rw [← toL_val hx, ← toL_val hy] at h
  rcases Nat.lt_or_ge (val xs) (val ys) with h1 | h1
  · exact h1
  · have := length_mono _ _ h1
    omega

theorem lt_at {X Y : List Nat} {i : Nat} (hx : Limbs X) (hd : X.drop (i + 1) = Y.drop (i + 1)) (hl : X.length = Y.length) (hi : i < X.length) (h : X.getD i 0 < Y.getD i 0) : val X < val Y := by
  have e1 : val X = val (X.take (i + 1)) + 4294967296 ^ (i + 1) * val (X.drop (i + 1)) := by
    conv => lhs; rw [← List.take_append_drop (i + 1) X, val_append, List.length_take, Nat.min_eq_left (by omega)]
  have e2 : val Y = val (Y.take (i + 1)) + 4294967296 ^ (i + 1) * val (Y.drop (i + 1)) := by
    conv => lhs; rw [← List.take_append_drop (i + 1) Y, val_append, List.length_take, Nat.min_eq_left (by omega)]
  rw [e1, e2, hd, val_take_next, val_take_next]
  have h1 := val_lt (hx.take i)
  rw [List.length_take, Nat.min_eq_left (by omega)] at h1
  have h2 := Nat.mul_le_mul_left (4294967296 ^ i) (show X.getD i 0 + 1 ≤ Y.getD i 0 from h)
  rw [Nat.mul_add, Nat.mul_one] at h2
  omega

theorem val_eq_of_drop {X Y : List Nat} (h : X.drop 0 = Y.drop 0) : val X = val Y := by
  rw [List.drop_zero, List.drop_zero] at h; rw [h]

end Go.Proofs.YtijadodleiiomaaDoor
