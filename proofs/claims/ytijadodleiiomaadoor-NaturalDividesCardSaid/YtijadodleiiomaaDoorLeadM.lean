/-
  Lehmer's steps: plain mathematics.
-/
import Derived.Test.YtijadodleiiomaaDoorGcdM
namespace Go.Proofs.YtijadodleiiomaaDoor

/-- What steps of Euclid's algorithm on x0 and y0 have come to: the numbers x and y, and of what they are made: x = σ (p x0 - q y0), y = σ (s y0 - r x0). -/
structure Steps (x0 y0 : Nat) (σ : Int) (p q r s x y : Nat) : Prop where
  sign : σ = 1 ∨ σ = -1
  det : (p : Int) * s - q * r = σ
  hx : x0 = s * x + q * y
  hy : y0 = r * x + p * y
  rs : r ≤ s
  qs : q ≤ s
  s1 : 1 ≤ s
  le : y ≤ x
  st : (p = 1 ∧ q = 0 ∧ r = 0 ∧ s = 1 ∧ σ = 1) ∨ (1 ≤ q ∧ 1 ≤ r ∧ p ≤ q ∧ s ≤ y ∧ s + q + y ≤ x)

theorem Steps.start {x0 y0 : Nat} (h : y0 ≤ x0) : Steps x0 y0 1 1 0 0 1 x0 y0 :=
  ⟨Or.inl rfl, by omega, by omega, by omega, by omega, by omega, by omega, h, Or.inl ⟨rfl, rfl, rfl, rfl, rfl⟩⟩

theorem Steps.t1 {x0 y0 : Nat} {σ : Int} {p q r s x y : Nat} (h : Steps x0 y0 σ p q r s x y) (hy : 0 < y) : 1 ≤ x / y := by
  exact (Nat.le_div_iff_mul_le hy).2 (by have := h.le; omega)

theorem Steps.row {x0 y0 : Nat} {σ : Int} {p q r s x y : Nat} (h : Steps x0 y0 σ p q r s x y) (hy : 0 < y) :
    p + x / y * r ≤ q + x / y * s ∧ q + x / y * s ≤ x0 ∧ s ≤ q + x / y * s := by
  have ht := h.t1 hy
  have hrs := Nat.mul_le_mul_left (x / y) h.rs
  have hts : s ≤ x / y * s := Nat.le_mul_of_pos_left _ ht
  refine ⟨?_, ?_, by omega⟩
  · rcases h.st with ⟨h1, h2, h3, h4, _⟩ | ⟨_, _, h3, _, _⟩
    · rw [h1, h2, h3, h4]; omega
    · omega
  · have e := Nat.div_add_mod x y
    have h1 : s * x = (x / y * s) * y + s * (x % y) := by
      conv => lhs; rw [← e]
      rw [Nat.mul_add, Nat.mul_comm y, ← Nat.mul_assoc, Nat.mul_comm s]
    have h2 : (q + x / y * s) * y ≤ x0 := by
      rw [h.hx, h1, Nat.add_mul]
      omega
    exact Nat.le_trans (Nat.le_mul_of_pos_right _ hy) h2

theorem Steps.next {x0 y0 : Nat} {σ : Int} {p q r s x y : Nat} (h : Steps x0 y0 σ p q r s x y) (hy : 0 < y) (h1 : q + x / y * s ≤ x % y) (h2 : q + x / y * s + s + x % y ≤ y) :
    Steps x0 y0 (-σ) r s (p + x / y * r) (q + x / y * s) y (x % y) := by
  have ht := h.t1 hy
  have hr := h.row hy
  have e := Nat.div_add_mod x y
  have hlt := Nat.mod_lt x hy
  have e1 : ∀ z : Nat, z * x = (x / y * z) * y + z * (x % y) := by
    intro z
    conv => lhs; rw [← e]
    rw [Nat.mul_add, Nat.mul_comm y, ← Nat.mul_assoc, Nat.mul_comm z]
  refine ⟨by rcases h.sign with e | e <;> rw [e] <;> simp, ?_, ?_, ?_, hr.1, hr.2.2, Nat.le_trans h.s1 hr.2.2, Nat.le_of_lt hlt, Or.inr ⟨h.s1, ?_, h.rs, h1, h2⟩⟩
  · have hd := h.det
    generalize x / y = t at *
    rw [Int.natCast_add, Int.natCast_add, Int.natCast_mul, Int.natCast_mul, Int.mul_add, Int.mul_add]
    have e3 : (r : Int) * (t * s) = s * (t * r) := by
      rw [Int.mul_left_comm, Int.mul_left_comm (s : Int), Int.mul_comm (r : Int)]
    rw [e3, Int.mul_comm (r : Int) q, Int.mul_comm (s : Int) p]
    omega
  · rw [h.hx, e1 s, Nat.add_mul]
    omega
  · rw [h.hy, e1 r, Nat.add_mul]
    omega
  · rcases h.st with ⟨h1, _⟩ | ⟨_, h2, _⟩
    · omega
    · have := Nat.mul_le_mul ht h2
      omega

/-- The second factors are short. -/
theorem Steps.short {x0 y0 : Nat} {σ : Int} {p q r s x y : Nat} (h : Steps x0 y0 σ p q r s x y) (hx : x0 < 4611686018427387904) : s < 2147483648 := by
  rcases h.st with ⟨_, _, _, h4, _⟩ | ⟨h1, _, _, h4, h5⟩
  · omega
  · rcases Nat.lt_or_ge s 2147483648 with hlt | hge
    · exact hlt
    · exfalso
      have h6 := Nat.mul_le_mul hge (show 2147483648 ≤ x by omega)
      have := h.hx
      omega

/-- What the steps make of the numbers themselves. -/
theorem Steps.made {x0 y0 : Nat} {σ : Int} {p q r s x y : Nat} (h : Steps x0 y0 σ p q r s x y) (hq : 1 ≤ q) {A B K α β : Nat} (hA : A = x0 * K + α) (hB : B = y0 * K + β) (hα : α < K) (hβ : β < K) :
    ∃ A' B' : Nat, (A' : Int) = σ * p * A + -σ * q * B ∧ (B' : Int) = -σ * r * A + σ * s * B ∧ A = s * A' + q * B' ∧ B = r * A' + p * B' ∧ 1 ≤ B' ∧ B' ≤ A' ∧ A' ≤ B ∧ A' + B' < A + B ∧ Nat.gcd A' B' = Nat.gcd A B := by
  obtain ⟨h1, h2, h3, h4, h5⟩ : 1 ≤ q ∧ 1 ≤ r ∧ p ≤ q ∧ s ≤ y ∧ s + q + y ≤ x := by
    rcases h.st with ⟨_, h2, _⟩ | h
    · omega
    · exact h
  have hss : σ * σ = 1 := by rcases h.sign with e | e <;> rw [e] <;> rfl
  -- the new numbers, as integers
  obtain ⟨a, ha⟩ : ∃ a : Int, a = σ * p * A + -σ * q * B := ⟨_, rfl⟩
  obtain ⟨b, hb⟩ : ∃ b : Int, b = -σ * r * A + σ * s * B := ⟨_, rfl⟩
  have eA : (A : Int) = s * a + q * b := by
    have : (s : Int) * a + q * b = σ * ((p : Int) * s - q * r) * A := by
      rw [ha, hb]
      grind
    rw [this, h.det, hss, Int.one_mul]
  have eB : (B : Int) = r * a + p * b := by
    have : (r : Int) * a + p * b = σ * ((p : Int) * s - q * r) * B := by
      rw [ha, hb]
      grind
    rw [this, h.det, hss, Int.one_mul]
  have xA : (A : Int) = x0 * K + α := by rw [hA]; simp
  have xB : (B : Int) = y0 * K + β := by rw [hB]; simp
  have ex0 : (x0 : Int) = s * x + q * y := by rw [h.hx]; simp
  have ey0 : (y0 : Int) = r * x + p * y := by rw [h.hy]; simp
  have ea : a = x * K + σ * (p * α - q * β) := by
    have : σ * ((p : Int) * s - q * r) = 1 := by rw [h.det, hss]
    rw [ha, xA, xB, ex0, ey0]
    grind
  have eb : b = y * K + σ * (s * β - r * α) := by
    have : σ * ((p : Int) * s - q * r) = 1 := by rw [h.det, hss]
    rw [hb, xA, xB, ex0, ey0]
    grind
  -- the bounds, in natural numbers
  obtain ⟨xK, hxK⟩ : ∃ z, z = x * K := ⟨_, rfl⟩
  obtain ⟨yK, hyK⟩ : ∃ z, z = y * K := ⟨_, rfl⟩
  obtain ⟨sK, hsK⟩ : ∃ z, z = s * K := ⟨_, rfl⟩
  obtain ⟨qK, hqK⟩ : ∃ z, z = q * K := ⟨_, rfl⟩
  obtain ⟨pa, hpa⟩ : ∃ z, z = p * α := ⟨_, rfl⟩
  obtain ⟨qb, hqb⟩ : ∃ z, z = q * β := ⟨_, rfl⟩
  obtain ⟨sb, hsb⟩ : ∃ z, z = s * β := ⟨_, rfl⟩
  obtain ⟨ra, hra⟩ : ∃ z, z = r * α := ⟨_, rfl⟩
  have n1 : sK ≤ yK := by rw [hsK, hyK]; exact Nat.mul_le_mul_right _ h4
  have n2 : sK + qK + yK ≤ xK := by
    rw [hsK, hqK, hyK, hxK, ← Nat.add_mul, ← Nat.add_mul]
    exact Nat.mul_le_mul_right _ h5
  have n3 : sb + s ≤ sK := by
    have := Nat.mul_le_mul_left s (show β + 1 ≤ K from hβ)
    rw [Nat.mul_add, Nat.mul_one] at this
    omega
  have n4 : ra + s ≤ sK := by
    have e1 := Nat.mul_le_mul_left s (show α + 1 ≤ K from hα)
    rw [Nat.mul_add, Nat.mul_one] at e1
    have e2 := Nat.mul_le_mul_right α h.rs
    omega
  have n5 : qb + q ≤ qK := by
    have := Nat.mul_le_mul_left q (show β + 1 ≤ K from hβ)
    rw [Nat.mul_add, Nat.mul_one] at this
    omega
  have n6 : pa + q ≤ qK := by
    have e1 := Nat.mul_le_mul_left q (show α + 1 ≤ K from hα)
    rw [Nat.mul_add, Nat.mul_one] at e1
    have e2 := Nat.mul_le_mul_right α h3
    omega
  have ea' : a = xK + σ * ((pa : Int) - qb) := by rw [ea, hxK, hpa, hqb]; simp
  have eb' : b = yK + σ * ((sb : Int) - ra) := by rw [eb, hyK, hsb, hra]; simp
  have s1 := h.s1
  clear ea eb hxK hyK hsK hqK hpa hqb hsb hra
  have hbounds : 1 ≤ b ∧ b ≤ a := by
    rcases h.sign with e | e <;> rw [e] at ea' eb' <;> omega
  obtain ⟨hb1, hba⟩ := hbounds
  have ca : ((a.toNat : Nat) : Int) = a := Int.toNat_of_nonneg (by omega)
  have cb : ((b.toNat : Nat) : Int) = b := Int.toNat_of_nonneg (by omega)
  obtain ⟨A', hA'⟩ : ∃ A', A' = a.toNat := ⟨_, rfl⟩
  obtain ⟨B', hB'⟩ : ∃ B', B' = b.toNat := ⟨_, rfl⟩
  rw [← hA'] at ca
  rw [← hB'] at cb
  have fA : A = s * A' + q * B' := by
    have : (A : Int) = ((s * A' + q * B' : Nat) : Int) := by rw [eA, ← ca, ← cb]; simp
    exact Int.ofNat_inj.1 this
  have fB : B = r * A' + p * B' := by
    have : (B : Int) = ((r * A' + p * B' : Nat) : Int) := by rw [eB, ← ca, ← cb]; simp
    exact Int.ofNat_inj.1 this
  have k1 : A' ≤ B := by rw [fB]; exact Nat.le_trans (Nat.le_mul_of_pos_left _ h2) (Nat.le_add_right _ _)
  have k2 : A' + B' ≤ A := by
    rw [fA]
    exact Nat.add_le_add (Nat.le_mul_of_pos_left _ s1) (Nat.le_mul_of_pos_left _ h1)
  refine ⟨A', B', by rw [ca]; exact ha, by rw [cb]; exact hb, fA, fB, by omega, by omega, k1, by omega, ?_⟩
  refine gcd_same fun k => ⟨fun ⟨d1, d2⟩ => ⟨?_, ?_⟩, fun ⟨d1, d2⟩ => ⟨?_, ?_⟩⟩
  · rw [fA]; exact Nat.dvd_add (Nat.dvd_mul_left_of_dvd d1 _) (Nat.dvd_mul_left_of_dvd d2 _)
  · rw [fB]; exact Nat.dvd_add (Nat.dvd_mul_left_of_dvd d1 _) (Nat.dvd_mul_left_of_dvd d2 _)
  · apply Int.ofNat_dvd.1
    rw [ca, ha]
    exact Int.dvd_add (Int.dvd_mul_of_dvd_right (Int.ofNat_dvd.2 d1)) (Int.dvd_mul_of_dvd_right (Int.ofNat_dvd.2 d2))
  · apply Int.ofNat_dvd.1
    rw [cb, hb]
    exact Int.dvd_add (Int.dvd_mul_of_dvd_right (Int.ofNat_dvd.2 d1)) (Int.dvd_mul_of_dvd_right (Int.ofNat_dvd.2 d2))

end Go.Proofs.YtijadodleiiomaaDoor
