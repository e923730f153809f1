/-
  Several texts in one: Fm, Fo, Sum.
-/
import Derived.Test.YtfjakjaakbnklaaGreatDoorGl

/-
  The executor: facts that can't be true together, by certificates: a sum of products of positive numbers that is zero.
-/
namespace Go.Proofs.YtfjakjaakbnklaaGreatDoor
open Go.RowKit
set_option linter.unusedVariables false
set_option linter.unusedSimpArgs false

abbrev Facts := List (Poly × Nat)
/-- A factor: a fact's number, turned if it is negative; the square of a number that is not zero; the square of a polynomial; a number that is known not to be negative. -/
inductive Fcr where
  | f (i : Nat)
  | n (i : Nat)
  | s (p : Poly)
  | a (i : Nat)

def nthF : Facts → Nat → Option (Poly × Nat)
  | [], _ => none
  | x :: r, i => match i with | 0 => some x | i + 1 => nthF r i
def nthP : List Poly → Nat → Option Poly
  | [], _ => none
  | x :: r, i => match i with | 0 => some x | i + 1 => nthP r i
/-- Its polynomial, and whether it is positive. -/
def facP (ax : List Poly) (h : Facts) : Fcr → Option (Poly × Bool)
  | .f i => match nthF h i with
    | some (p, s) => (match s with | 1 => some (p, true) | 2 => some (pscale (-1) p, true) | _ => none)
    | none => none
  | .n i => match nthF h i with
    | some (p, s) => (match s with | 1 => some (pmul p p, true) | 2 => some (pmul p p, true) | 3 => some (pmul p p, true) | _ => none)
    | none => none
  | .s p => some (pmul p p, false)
  | .a i => match nthP ax i with | some p => some (p, false) | none => none
def prodP (ax : List Poly) (h : Facts) : List Fcr → Option (Poly × Bool)
  | [] => some ([([], 1)], true)
  | f :: r => match facP ax h f, prodP ax h r with
    | some (p, b), some (q, c) => some (pmul p q, b && c)
    | _, _ => none
def sumP (ax : List Poly) (h : Facts) : List (Nat × List Fcr) → Option (Poly × Bool)
  | [] => some ([], false)
  | (c, fs) :: r => match prodP ax h fs, sumP ax h r with
    | some (p, b), some (q, d) => some (padd (pscale (.ofNat (c + 1)) p) q, b || d)
    | _, _ => none
/-- Multiples of what is zero: of facts, and of known polynomials. -/
def zerP (az : List Poly) (h : Facts) : List (Bool × Nat × Poly) → Option Poly
  | [] => some []
  | (b, i, q) :: r => match (match b with
      | true => nthP az i
      | false => (match nthF h i with | some (p, 0) => some p | _ => none)), zerP az h r with
    | some p, some s => some (padd (pmul p q) s)
    | _, _ => none
structure Cert where
  h : Facts
  ts : List (Nat × List Fcr)
  zs : List (Bool × Nat × Poly)
def certB (ax az : List Poly) (c : Cert) : Bool := match sumP ax c.h c.ts, zerP az c.h c.zs with
  | some (p, true), some q => (match padd p q with | [] => true | _ => false)
  | _, _ => false
def infOf : List Cert → Inf
  | [] => []
  | c :: r => c.h :: infOf r

section
variable {V : Nat → Rat} {ax az : List Poly} {h : Facts}
theorem nthF_mem : ∀ {h : Facts} {i : Nat} {x : Poly × Nat}, nthF h i = some x → x ∈ h
  | y :: r, 0, x, e => by cases e; exact List.mem_cons_self
  | y :: r, i + 1, x, e => List.mem_cons_of_mem _ (nthF_mem (h := r) e)
theorem nthP_mem : ∀ {h : List Poly} {i : Nat} {x : Poly}, nthP h i = some x → x ∈ h
  | y :: r, 0, x, e => by cases e; exact List.mem_cons_self
  | y :: r, i + 1, x, e => List.mem_cons_of_mem _ (nthP_mem (h := r) e)
def signed (x : Rat) (b : Bool) : Prop := 0 ≤ x ∧ (b = true → 0 < x)
theorem signed_pos {x : Rat} (h : 0 < x) : signed x true := ⟨Rat.le_of_lt h, fun _ => h⟩
theorem rat_sq (x : Rat) : 0 ≤ x * x := by
  rcases Std.lt_trichotomy (a := (0 : Rat)) (b := x) with h1 | h1 | h1
  · exact Rat.le_of_lt (Rat.mul_pos h1 h1)
  · rw [← h1, Rat.mul_zero]; exact Rat.le_refl
  · have := Rat.mul_pos (show 0 < -x by grind) (show 0 < -x by grind)
    grind
theorem rat_sq_pos {x : Rat} (h : x ≠ 0) : 0 < x * x := by
  rcases Std.lt_trichotomy (a := (0 : Rat)) (b := x) with h1 | h1 | h1
  · exact Rat.mul_pos h1 h1
  · exact absurd h1.symm h
  · have := Rat.mul_pos (show 0 < -x by grind) (show 0 < -x by grind)
    grind
theorem signed_mul {x y : Rat} {b c : Bool} (h1 : signed x b) (h2 : signed y c) : signed (x * y) (b && c) :=
  ⟨Rat.mul_nonneg h1.1 h2.1, fun e => by
    rw [Bool.and_eq_true] at e
    exact Rat.mul_pos (h1.2 e.1) (h2.2 e.2)⟩
theorem signed_add {x y : Rat} {b c : Bool} (h1 : signed x b) (h2 : signed y c) : signed (x + y) (b || c) := by
  have a1 := h1.1
  have a2 := h2.1
  refine ⟨by grind, fun e => ?_⟩
  rw [Bool.or_eq_true] at e
  rcases e with e | e
  · have := h1.2 e; grind
  · have := h2.2 e; grind
theorem facP_ok (hax : ∀ p ∈ ax, 0 ≤ evP V p) (hh : ∀ x ∈ h, sgOk (evP V x.1) x.2) : ∀ {f : Fcr} {p : Poly} {b : Bool}, facP ax h f = some (p, b) → signed (evP V p) b
  | .f i, p, b, e => by
    replace e : (match nthF h i with
      | some (p, s) => (match s with | 1 => some (p, true) | 2 => some (pscale (-1) p, true) | _ => none)
      | none => none) = some (p, b) := e
    split at e
    · rename_i q s hq
      have hs := hh _ (nthF_mem hq)
      split at e
      · cases e; exact signed_pos hs
      · cases e
        rw [evP_pscale]
        have hs : evP V q < 0 := hs
        have e1 : ((-1 : Int) : Rat) = -1 := rfl
        rw [e1]
        exact signed_pos (by grind)
      · cases e
    · cases e
  | .n i, p, b, e => by
    replace e : (match nthF h i with
      | some (p, s) => (match s with | 1 => some (pmul p p, true) | 2 => some (pmul p p, true) | 3 => some (pmul p p, true) | _ => none)
      | none => none) = some (p, b) := e
    split at e
    · rename_i q s hq
      have hs := hh _ (nthF_mem hq)
      split at e
      · cases e
        have hs : 0 < evP V q := hs
        rw [evP_pmul]; exact signed_pos (rat_sq_pos (by grind))
      · cases e
        have hs : evP V q < 0 := hs
        rw [evP_pmul]; exact signed_pos (rat_sq_pos (by grind))
      · cases e
        rw [evP_pmul]; exact signed_pos (rat_sq_pos hs)
      · cases e
    · cases e
  | .s q, p, b, e => by cases e; rw [evP_pmul]; exact ⟨rat_sq _, fun h => by cases h⟩
  | .a i, p, b, e => by
    replace e : (match nthP ax i with | some p => some (p, false) | none => none) = some (p, b) := e
    split at e
    · rename_i q hq
      cases e
      exact ⟨hax _ (nthP_mem hq), fun h => by cases h⟩
    · cases e
theorem prodP_ok (hax : ∀ p ∈ ax, 0 ≤ evP V p) (hh : ∀ x ∈ h, sgOk (evP V x.1) x.2) : ∀ {fs : List Fcr} {p : Poly} {b : Bool}, prodP ax h fs = some (p, b) → signed (evP V p) b
  | [], p, b, e => by
    cases e
    have : evP V [([], 1)] = 1 := by
      show ((1 : Int) : Rat) * 1 + 0 = 1
      have h1 : ((1 : Int) : Rat) = 1 := rfl
      rw [h1]; grind
    rw [this]; exact signed_pos (by decide)
  | f :: r, p, b, e => by
    unfold prodP at e
    split at e
    · rename_i q b q' b' h1 h2
      cases e
      rw [evP_pmul]
      exact signed_mul (facP_ok hax hh h1) (prodP_ok hax hh h2)
    · cases e
theorem sumP_ok (hax : ∀ p ∈ ax, 0 ≤ evP V p) (hh : ∀ x ∈ h, sgOk (evP V x.1) x.2) : ∀ {ts : List (Nat × List Fcr)} {p : Poly} {b : Bool}, sumP ax h ts = some (p, b) → signed (evP V p) b
  | [], p, b, e => by cases e; exact ⟨by show (0 : Rat) ≤ 0; exact Rat.le_refl, fun h => by cases h⟩
  | (c, fs) :: r, p, b, e => by
    unfold sumP at e
    split at e
    · rename_i q b q' b' h1 h2
      cases e
      have hc : (0 : Rat) < ((c + 1 : Nat) : Rat) := by
        have : ((0 : Nat) : Rat) < ((c + 1 : Nat) : Rat) := Rat.natCast_lt_natCast.2 (Nat.succ_pos c)
        exact this
      rw [evP_padd, evP_pscale, ofNat_cast]
      have := signed_add (signed_mul (signed_pos hc) (prodP_ok hax hh h1)) (sumP_ok hax hh h2)
      rw [Bool.true_and] at this
      exact this
    · cases e
theorem zerP_ok (haz : ∀ p ∈ az, evP V p = 0) (hh : ∀ x ∈ h, sgOk (evP V x.1) x.2) : ∀ {zs : List (Bool × Nat × Poly)} {p : Poly}, zerP az h zs = some p → evP V p = 0
  | [], p, e => by cases e; rfl
  | (b, i, q) :: r, p, e => by
    unfold zerP at e
    split at e
    · rename_i p1 s1 h1 h2
      cases e
      have hz : evP V p1 = 0 := by
        split at h1
        · exact haz _ (nthP_mem h1)
        · split at h1
          · rename_i p2 hp
            cases h1
            exact hh _ (nthF_mem hp)
          · cases h1
      rw [evP_padd, evP_pmul, hz, zerP_ok haz hh h2]; grind
    · cases e
theorem certB_ok (hax : ∀ p ∈ ax, 0 ≤ evP V p) (haz : ∀ p ∈ az, evP V p = 0) {c : Cert} (h : certB ax az c = true) : ¬ ∀ x ∈ c.h, sgOk (evP V x.1) x.2 := fun hh => by
  unfold certB at h
  split at h
  · rename_i p q h1 h2
    split at h
    · rename_i h3
      have e1 := (sumP_ok hax hh h1).2 rfl
      have e2 := zerP_ok haz hh h2
      have e3 := evP_padd (V := V) p q
      rw [h3, e2] at e3
      have e4 : evP V [] = 0 := rfl
      rw [e4] at e3
      grind
    · cases h
  · cases h
theorem infOf_mem : ∀ {l : List Cert} {h : Facts}, h ∈ infOf l → ∃ c ∈ l, c.h = h
  | c :: r, h, hm => by
    rcases List.mem_cons.1 hm with rfl | hm
    · exact ⟨c, List.mem_cons_self, rfl⟩
    · obtain ⟨d, hd, e⟩ := infOf_mem hm
      exact ⟨d, List.mem_cons_of_mem _ hd, e⟩
end
/-- Certified lists of facts are at odds. -/
theorem infC {E : Env} {ax az : List Poly} (hax : ∀ p ∈ ax, 0 ≤ evP E.V p) (haz : ∀ p ∈ az, evP E.V p = 0) {l : List Cert} (h : l.all (certB ax az) = true) : InfOk E (infOf l) := fun f hf => by
  obtain ⟨c, hc, rfl⟩ := infOf_mem hf
  exact certB_ok hax haz (List.all_eq_true.1 h c hc)
/-- What the names of a table are, as polynomials that are zero. -/
def azOf : Tab → List Poly
  | [] => []
  | x :: r => match Nat.beq (x.1 % 8) 6 with
    | true => padd [([x.1], 1)] (pscale (-1) x.2) :: azOf r
    | false => azOf r
theorem azOf_ok {E : Env} : ∀ {tab : Tab}, TabAll E tab → ∀ p ∈ azOf tab, evP E.V p = 0
  | [], _, p, h => by cases h
  | x :: r, hT, p, h => by
    unfold azOf at h
    have hr : TabAll E r := fun y hy => hT y (List.mem_cons_of_mem _ hy)
    split at h
    · rename_i hb
      rcases List.mem_cons.1 h with rfl | h
      · have h1 := (hT x List.mem_cons_self).2 (Nat.eq_of_beq_eq_true hb)
        rw [evP_padd, evP_pscale]
        have h2 : evP E.V [([x.1], 1)] = E.V x.1 := by
          show ((1 : Int) : Rat) * (E.V x.1 * 1) + 0 = _
          have h3 : ((1 : Int) : Rat) = 1 := rfl
          rw [h3]; grind
        have h4 : ((-1 : Int) : Rat) = -1 := rfl
        rw [h2, h1, h4]; grind
      · exact azOf_ok hr p h
    · exact azOf_ok hr p h
/-- Part of the integer a lies between 0 and 1. -/
def partAx (a : Nat) : List Poly := [[([32 * a + 5], 1)], [([], 1), ([32 * a + 5], -1)]]
theorem partAx_ok {E : Env} {m : Nat} (hM : IntEnv E m) (h : 0 < m) (a : Nat) : ∀ p ∈ partAx a, 0 ≤ evP E.V p := fun p hp => by
  have hn := hM.num (4 * a) h
  rw [show 8 * (4 * a) + 5 = 32 * a + 5 by omega] at hn
  have e : intV E.I (4 * a) = partR (E.I a) := by
    unfold intV
    rw [show 4 * a % 4 = 0 by omega, show 4 * a / 4 = a by omega]
    rfl
  obtain ⟨h1, h2⟩ := partR_bd (E.I a)
  rw [e] at hn
  have c1 : ((1 : Int) : Rat) = 1 := rfl
  have c2 : ((-1 : Int) : Rat) = -1 := rfl
  unfold partAx at hp
  rcases List.mem_cons.1 hp with rfl | hp
  · show 0 ≤ ((1 : Int) : Rat) * (E.V (32 * a + 5) * 1) + 0
    rw [hn, c1]; grind
  · rcases List.mem_cons.1 hp with rfl | hp
    · show 0 ≤ ((1 : Int) : Rat) * 1 + (((-1 : Int) : Rat) * (E.V (32 * a + 5) * 1) + 0)
      rw [hn, c1, c2]; grind
    · cases hp

/-! ### Names that other names determine -/

def subA (a : Nat) (e : Poly) : Poly → Poly
  | [] => []
  | (m, c) :: p => padd (pmulT (delM a m) c (ppow e (cntM a m))) (subA a e p)
theorem evP_subA {V : Nat → Rat} {a : Nat} {e : Poly} (h : V a = evP V e) : ∀ p : Poly, evP V (subA a e p) = evP V p
  | [] => rfl
  | (m, c) :: p => by
    show evP V (padd (pmulT (delM a m) c (ppow e (cntM a m))) (subA a e p)) = (c : Rat) * evM V m + evP V p
    rw [evP_padd, evP_pmulT, evP_ppow, evP_subA h p, evM_del a m, h]; grind
/-- An atom, the polynomial that it is, and the polynomials that are zero whose sum is their difference. -/
abbrev Subs := List (Nat × Poly × List (Nat × Int))
def combP (az : List Poly) : List (Nat × Int) → Poly
  | [] => []
  | (i, k) :: r => match nthP az i with
    | some p => padd (pscale k p) (combP az r)
    | none => combP az r
theorem combP_ok {V : Nat → Rat} {az : List Poly} (h : ∀ p ∈ az, evP V p = 0) : ∀ l, evP V (combP az l) = 0
  | [] => rfl
  | (i, k) :: r => by
    unfold combP
    split
    · rename_i p hp
      rw [evP_padd, evP_pscale, h p (nthP_mem hp), combP_ok h r]; grind
    · exact combP_ok h r
def subsB (az : List Poly) (s : Subs) : Bool := s.all fun x => match padd (padd [([x.1], 1)] (pscale (-1) x.2.1)) (pscale (-1) (combP az x.2.2)) with | [] => true | _ => false
theorem ev_atom {V : Nat → Rat} (a : Nat) : evP V [([a], 1)] = V a := by
  show ((1 : Int) : Rat) * (V a * 1) + 0 = _
  have h3 : ((1 : Int) : Rat) = 1 := rfl
  rw [h3]; grind
theorem subsB_ok {V : Nat → Rat} {az : List Poly} (h : ∀ p ∈ az, evP V p = 0) {s : Subs} (hb : subsB az s = true) : ∀ x ∈ s, V x.1 = evP V x.2.1 := fun x hx => by
  have := List.all_eq_true.1 hb x hx
  split at this
  · rename_i he
    have h1 := congrArg (evP V) he
    have c2 : ((-1 : Int) : Rat) = -1 := rfl
    rw [evP_padd, evP_padd, evP_pscale, evP_pscale, combP_ok h, ev_atom, c2] at h1
    have h0 : evP V [] = 0 := rfl
    rw [h0] at h1
    grind
  · cases this
def subAll : Subs → Poly → Poly
  | [], p => p
  | x :: r, p => subAll r (subA x.1 x.2.1 p)
theorem subAll_ok {V : Nat → Rat} : ∀ {s : Subs}, (∀ x ∈ s, V x.1 = evP V x.2.1) → ∀ p, evP V (subAll s p) = evP V p
  | [], _, _ => rfl
  | x :: r, h, p => by
    show evP V (subAll r (subA x.1 x.2.1 p)) = _
    rw [subAll_ok fun y hy => h y (List.mem_cons_of_mem _ hy), evP_subA (h x List.mem_cons_self)]
def subF (s : Subs) : Facts → Facts
  | [] => []
  | x :: r => (subAll s x.1, x.2) :: subF s r
theorem subF_mem {s : Subs} : ∀ {h : Facts} {x : Poly × Nat}, x ∈ subF s h → ∃ y ∈ h, x = (subAll s y.1, y.2)
  | y :: r, x, hx => by
    rcases List.mem_cons.1 hx with rfl | hx
    · exact ⟨y, List.mem_cons_self, rfl⟩
    · obtain ⟨z, h1, h2⟩ := subF_mem hx
      exact ⟨z, List.mem_cons_of_mem _ h1, h2⟩
def certS (ax : List Poly) (s : Subs) (c : Cert) : Bool := certB ax [] ⟨subF s c.h, c.ts, c.zs⟩
/-- The same, where names are put in for others first. -/
theorem infS {E : Env} {ax az : List Poly} {s : Subs} (hax : ∀ p ∈ ax, 0 ≤ evP E.V p) (haz : ∀ p ∈ az, evP E.V p = 0) (hs : subsB az s = true) {l : List Cert} (h : l.all (certS ax s) = true) : InfOk E (infOf l) := fun f hf hh => by
  obtain ⟨c, hc, rfl⟩ := infOf_mem hf
  refine certB_ok hax (fun p h => by cases h) (List.all_eq_true.1 h c hc) fun x hx => ?_
  obtain ⟨y, hy, rfl⟩ := subF_mem hx
  show sgOk (evP E.V (subAll s y.1)) y.2
  rw [subAll_ok (subsB_ok haz hs)]
  exact hh y hy
end Go.Proofs.YtfjakjaakbnklaaGreatDoor

/-
  The executor: functions whose results are polynomials in their arguments, run once over any arguments, are calls that are known.
-/
namespace Go.Proofs.YtfjakjaakbnklaaGreatDoor
open Go.RowKit
set_option linter.unusedVariables false
set_option linter.unusedSimpArgs false

/-- The numbers in some cells, in arguments. -/
def numsC : List K → Option (List (Num × Nat))
  | [] => some []
  | a :: b :: c :: r => match numOf (.agg [a, b, c]), numsC r with
    | some x, some l => some (x :: l)
    | _, _ => none
  | _ => none
def numsA : List KA → Option (List (Num × Nat))
  | [] => some []
  | .agg cs :: r => match numsC cs, numsA r with
    | some l, some m => some (l ++ m)
    | _, _ => none
  | _ => none
/-- Arguments that are any numbers: the i-th has the name 8 i. -/
def genC (J : Nat) : Nat → Nat → List K
  | _, 0 => []
  | i, k + 1 => .q (nvar (8 * i)) J 0 :: .q (nvar (8 * i)) J 1 :: .q (nvar (8 * i)) J 2 :: genC J (i + 1) k
def genA (J : Nat) : Nat → List Nat → List KA
  | _, [] => []
  | i, k :: r => .agg (genC J i k) :: genA J (i + k) r
def shpA : List KA → List Nat → Bool
  | [], [] => true
  | .agg cs :: r, k :: s => Nat.beq cs.length (3 * k) && shpA r s
  | _, _ => false

/-! ### Numbers put in for names -/

def getN : List (Num × Nat) → Nat → Num
  | [], _ => ⟨[], 0⟩
  | x :: r, i => match i with | 0 => x.1 | i + 1 => getN r i
def subM (ns : List (Num × Nat)) : Mono → Num
  | [] => nint 1
  | a :: m => match m with
    | [] => getN ns (a / 8)
    | _ => nmul (getN ns (a / 8)) (subM ns m)
def subT (ns : List (Num × Nat)) (m : Mono) (c : Int) : Num := match subM ns m with
  | n => ⟨pscale c n.p, n.d⟩
def subP (ns : List (Num × Nat)) : Poly → Num
  | [] => ⟨[], 0⟩
  | (m, c) :: p => match p with
    | [] => subT ns m c
    | _ => nadd (subT ns m c) (subP ns p)
def subN (ns : List (Num × Nat)) (n : Num) : Num := match subP ns n.p with
  | q => match n.d with
    | 0 => q
    | d => ⟨q.p, q.d * d + q.d + d⟩
/-- The cells of numbers. -/
def cellsN : List (Num × Nat) → List K
  | [] => []
  | (n, j) :: r => .q n j 0 :: .q n j 1 :: .q n j 2 :: cellsN r
def subL (ns : List (Num × Nat)) : List (Num × Nat) → (List (Num × Nat) → Bool) → Bool
  | [], C => C []
  | (n, j) :: r, C => numK (subN ns n) fun x => subL ns r fun l => C ((x, j) :: l)
theorem subL_eq (ns : List (Num × Nat)) : ∀ (l : List (Num × Nat)) (C : List (Num × Nat) → Bool), subL ns l C = C (l.map fun p => (subN ns p.1, p.2))
  | [], C => rfl
  | (n, j) :: r, C => by
    show numK (subN ns n) (fun x => subL ns r fun l => C ((x, j) :: l)) = _
    rw [numK_eq, subL_eq ns r]
    rfl

section
variable {V : Nat → Rat} {ns : List (Num × Nat)}
theorem ev_nil (d : Nat) : Num.ev V ⟨[], d⟩ = 0 := by
  show (0 : Rat) / ((d + 1 : Nat) : Rat) = 0
  have := succ_ne d
  grind
theorem subM_ev : ∀ m : Mono, (subM ns m).ev V = evM (fun v => (getN ns (v / 8)).ev V) m
  | [] => by
    show (nint 1).ev V = 1
    rw [nint_ev]; rfl
  | [a] => by
    show (getN ns (a / 8)).ev V = (getN ns (a / 8)).ev V * 1
    grind
  | a :: b :: m => by
    show (nmul (getN ns (a / 8)) (subM ns (b :: m))).ev V = (getN ns (a / 8)).ev V * evM _ (b :: m)
    rw [nmul_ev, subM_ev (b :: m)]
theorem subT_ev (m : Mono) (c : Int) : (subT ns m c).ev V = (c : Rat) * evM (fun v => (getN ns (v / 8)).ev V) m := by
  rw [← subM_ev]
  show evP V (pscale c (subM ns m).p) / (((subM ns m).d + 1 : Nat) : Rat) = (c : Rat) * (evP V (subM ns m).p / (((subM ns m).d + 1 : Nat) : Rat))
  rw [evP_pscale]
  have := succ_ne (subM ns m).d
  grind
theorem subP_ev : ∀ p : Poly, (subP ns p).ev V = evP (fun v => (getN ns (v / 8)).ev V) p
  | [] => ev_nil 0
  | [(m, c)] => by
    show (subT ns m c).ev V = (c : Rat) * evM _ m + 0
    rw [subT_ev]; grind
  | (m, c) :: t :: p => by
    show (nadd (subT ns m c) (subP ns (t :: p))).ev V = (c : Rat) * evM _ m + evP _ (t :: p)
    rw [nadd_ev, subT_ev, subP_ev (t :: p)]
theorem subN_ev (n : Num) : (subN ns n).ev V = n.ev (fun v => (getN ns (v / 8)).ev V) := by
  have h := subP_ev (V := V) (ns := ns) n.p
  unfold subN
  simp only
  split
  · rename_i h0
    rw [h]
    show _ = evP _ n.p / ((n.d + 1 : Nat) : Rat)
    rw [h0]
    have : ((0 + 1 : Nat) : Rat) = 1 := rfl
    rw [this]; grind
  · show evP V (subP ns n.p).p / (((subP ns n.p).d * n.d + (subP ns n.p).d + n.d + 1 : Nat) : Rat) = evP _ n.p / ((n.d + 1 : Nat) : Rat)
    rw [d_mul, ← h]
    show _ = evP V (subP ns n.p).p / (((subP ns n.p).d + 1 : Nat) : Rat) / _
    have h1 := succ_ne n.d
    have h2 := succ_ne (subP ns n.p).d
    grind
end

theorem numOf_cells {E : Env} {J : Nat} {a b c : K} {n : Num} {j : Nat} (h : numOf (.agg [a, b, c]) = some (n, j)) (hj : j ≤ J) : EntC (cK E a) (.q (n.ev E.V) J 0) ∧ EntC (cK E b) (.q (n.ev E.V) J 1) ∧ EntC (cK E c) (.q (n.ev E.V) J 2) := by
  unfold numOf at h
  split at h
  · rename_i n1 j1 n2 j2 n3 j3 e
    injection e with e
    injection e with e1 e
    injection e with e2 e
    injection e with e3 e
    subst e1; subst e2; subst e3
    split at h
    · rename_i hc
      cases h
      simp only [Bool.and_eq_true, Nat.beq_eq] at hc
      obtain ⟨⟨⟨h1, h2⟩, h3⟩, h4⟩ := hc
      have e1 := neq_ok h1
      have e2 := neq_ok h2
      subst e1; subst e2; subst h3; subst h4
      exact ⟨EntC.q rfl hj, EntC.q rfl hj, EntC.q rfl hj⟩
    · cases h
  · rename_i e
    cases h
    injection e with e
    injection e with e1 e
    injection e with e2 e
    injection e with e3 e
    subst e1; subst e2; subst e3
    rw [ev_nil]
    exact ⟨EntC.z0, EntC.z1, EntC.z2⟩
  · cases h

def bndJ (J : Nat) (ns : List (Num × Nat)) : Bool := ns.all fun p => Nat.ble p.2 J

theorem ent_gen {E : Env} {J : Nat} {V' : Nat → Rat} : ∀ {cs : List K} {ns : List (Num × Nat)} {i k : Nat}, numsC cs = some ns → cs.length = 3 * k → bndJ J ns = true → (∀ t x, ns[t]? = some x → V' (8 * (i + t)) = x.1.ev E.V) →
    EntL (cs.map (cK E)) ((genC J i k).map (cK { E with V := V' })) ∧ ns.length = k
  | [], ns, i, k, h, hk, _, _ => by
    cases h
    have : k = 0 := by simp at hk; omega
    subst this
    exact ⟨.nil, rfl⟩
  | [_], _, _, _, h, _, _, _ => by cases h
  | [_, _], _, _, _, h, _, _, _ => by cases h
  | a :: b :: c :: r, ns, i, k, h, hk, hJ, hV => by
    unfold numsC at h
    split at h
    · rename_i x l hx hl
      cases h
      obtain ⟨n, j⟩ := x
      match k, hk with
      | 0, hk => simp at hk
      | k + 1, hk =>
        have hJ := List.all_eq_true.1 hJ
        have hj := Nat.le_of_ble_eq_true (hJ (n, j) List.mem_cons_self)
        obtain ⟨e1, e2, e3⟩ := numOf_cells (E := E) hx hj
        obtain ⟨h1, h2⟩ := ent_gen (E := E) (J := J) (V' := V') (i := i + 1) (k := k) hl (by simp at hk; omega) (List.all_eq_true.2 fun p hp => hJ p (List.mem_cons_of_mem _ hp)) fun t x ht => by
          rw [show 8 * (i + 1 + t) = 8 * (i + (t + 1)) by omega]
          exact hV (t + 1) x (by simpa using ht)
        have hv := hV 0 _ rfl
        rw [Nat.add_zero] at hv
        refine ⟨?_, by simp [h2]⟩
        have q : ∀ s, cK { E with V := V' } (.q (nvar (8 * i)) J s) = .q (n.ev E.V) J s := fun s => by
          show C.q ((nvar (8 * i)).ev V') J s = _
          rw [nvar_ev, hv]
        show EntL (cK E a :: cK E b :: cK E c :: r.map (cK E)) (cK _ (.q (nvar (8 * i)) J 0) :: cK _ (.q (nvar (8 * i)) J 1) :: cK _ (.q (nvar (8 * i)) J 2) :: (genC J (i + 1) k).map _)
        rw [q 0, q 1, q 2]
        exact .cons e1 (.cons e2 (.cons e3 h1))
    · cases h

theorem ents_gen {E : Env} {J : Nat} {V' : Nat → Rat} : ∀ {args : List KA} {shp : List Nat} {ns : List (Num × Nat)} {i : Nat}, numsA args = some ns → shpA args shp = true → bndJ J ns = true → (∀ t x, ns[t]? = some x → V' (8 * (i + t)) = x.1.ev E.V) →
    Ents (args.map (aK E)) ((genA J i shp).map (aK { E with V := V' }))
  | [], [], ns, i, h, _, _, _ => .nil
  | [], _ :: _, _, _, _, h, _, _ => by cases h
  | .one _ :: _, _, _, _, h, _, _, _ => by cases h
  | .tup _ :: _, _, _, _, h, _, _, _ => by cases h
  | .junk :: _, _, _, _, h, _, _, _ => by cases h
  | .agg _ :: _, [], _, _, _, h, _, _ => by cases h
  | .agg cs :: r, k :: s, ns, i, h, hs, hJ, hV => by
    unfold numsA at h
    split at h
    · rename_i l m hl hm
      cases h
      unfold shpA at hs
      rw [Bool.and_eq_true, Nat.beq_eq] at hs
      have hJ := List.all_eq_true.1 hJ
      obtain ⟨h1, h2⟩ := ent_gen (E := E) (J := J) (V' := V') (i := i) hl hs.1 (List.all_eq_true.2 fun p hp => hJ p (List.mem_append.2 (.inl hp))) fun t x ht => hV t x (by
        rw [List.getElem?_append_left (List.getElem?_eq_some_iff.1 ht).1]; exact ht)
      refine .cons (Ent.agg h1) (ents_gen hm hs.2 (List.all_eq_true.2 fun p hp => hJ p (List.mem_append.2 (.inr hp))) fun t x ht => ?_)
      rw [show 8 * (i + k + t) = 8 * (i + (k + t)) by omega]
      refine hV (k + t) x ?_
      rw [List.getElem?_append_right (by omega), show k + t - l.length = t by omega]
      exact ht
    · cases h

theorem getN_get : ∀ {ns : List (Num × Nat)} {t : Nat} {x : Num × Nat}, ns[t]? = some x → getN ns t = x.1
  | [], _, _, h => by simp at h
  | y :: r, 0, x, h => by simp at h; subst h; rfl
  | y :: r, t + 1, x, h => getN_get (ns := r) (by simpa using h)

/-! ### Summaries -/

def isRes (res : List (Num × Nat)) (l : List (CO × S)) : Bool := l.all fun p => kaeq p.1.r (.agg (cellsN res)) && p.1.nb.isNone && p.1.ro.isEmpty && p.1.rw.isEmpty
/-- The function f, called with any numbers, gives res. -/
noncomputable def sumB (J : Nat) (ex : List (Nat × Leaf)) (f : Nat) (shp : List Nat) (res : List (Num × Nat)) : Bool := callF Tryz.prog (cfg [] [] [] 0 0 [] [] ex) 30 f (genA J 0 shp) st0 (isRes res)
def lfSum (J : Nat) (shp : List Nat) (res : List (Num × Nat)) : Leaf := fun args st C => match numsA args with
  | some ns => shpA args shp && bndJ J ns && subL ns res fun r => C [(one (.agg (cellsN r)), st)]
  | none => false
theorem map_sub {E E' : Env} {ns : List (Num × Nat)} (hV : ∀ n, (subN ns n).ev E.V = n.ev E'.V) (res : List (Num × Nat)) : (cellsN (res.map fun p => (subN ns p.1, p.2))).map (cK E) = (cellsN res).map (cK E') := by
  induction res with
  | nil => rfl
  | cons p r ih =>
    simp only [List.map_cons, cellsN, cK, hV, ih]
theorem res_ok {E : Env} (hD : DiceEnv E 0) (hM : IntEnv E 0) {f : Nat} {ex : List (Nat × Leaf)} {gs : List KA} {res : List (Num × Nat)} (hx : ExOk ex) (h : callF Tryz.prog (cfg [] [] [] 0 0 [] [] ex) 30 f gs st0 (isRes res) = true) : Ctr Tryz.prog Amb f (gs.map (aK E)) (aK E (.agg (cellsN res))) := by
  obtain ⟨l, k1, q, kq, _, hco⟩ := runs_ok (E := E) (fun x hx => by cases hx) (noInf _) hD hM (fun a b h => by simp at h) (fun f hf => by cases hf) hx h
  have k2 := List.all_eq_true.1 k1 q kq
  clear k1 kq h
  simp only [Bool.and_eq_true, List.isEmpty_iff] at k2
  obtain ⟨⟨⟨e1, e2⟩, e3⟩, e4⟩ := k2
  have hm := hco.m (isNone_ok e2)
  rw [e3, e4, kaeq_ok e1] at hm
  exact hm
theorem lfSum_ok {E : Env} (hD : DiceEnv E 0) {J f : Nat} {ex : List (Nat × Leaf)} {shp : List Nat} {res : List (Num × Nat)} (hF : Fun Tryz.prog f) (hx : ExOk ex) (h : sumB J ex f shp res = true) : LfOk Tryz.prog Amb E f (lfSum J shp res) := fun args st C hC => by
  unfold lfSum at hC
  split at hC
  · rename_i ns hns
    simp only [Bool.and_eq_true, subL_eq] at hC
    obtain ⟨⟨h1, h2⟩, h3⟩ := hC
    refine ⟨_, h3, fun hs => ⟨_, List.mem_singleton.2 rfl, hs, rfl, rfl, callOk_one hF ?_⟩⟩
    obtain ⟨V', hV'⟩ : ∃ V' : Nat → Rat, V' = fun v => (getN ns (v / 8)).ev E.V := ⟨_, rfl⟩
    have hD' : DiceEnv { E with V := V' } 0 := ⟨fun a h => absurd h (Nat.not_lt_zero a), hD.pos, fun a h ha => absurd ha (Nat.not_lt_zero a)⟩
    have hM' : IntEnv { E with V := V' } 0 := ⟨fun a h => absurd h (Nat.not_lt_zero a), fun c h => absurd h (Nat.lt_irrefl 0)⟩
    have hm : Ctr Tryz.prog Amb f ((genA J 0 shp).map (aK { E with V := V' })) (aK { E with V := V' } (.agg (cellsN res))) := by
      have hx0 := hx
      have hb := h
      unfold sumB at hb
      clear h3 hx h h1 h2 hns hV'
      generalize genA J 0 shp = gs at hb ⊢
      exact res_ok hD' hM' hx0 hb
    refine CtrM.weak hm (ents_gen hns h1 h2 fun t x ht => ?_) ?_
    · rw [hV']
      show (getN ns (8 * (0 + t) / 8)).ev E.V = _
      rw [show 8 * (0 + t) / 8 = t by omega, getN_get ht]
    · show Ent (.agg ((cellsN res).map (cK { E with V := V' }))) (.agg ((cellsN (res.map fun p => (subN ns p.1, p.2))).map (cK E)))
      rw [map_sub (E := E) (E' := { E with V := V' }) (fun n => by rw [subN_ev, hV']) res]
      exact Ent.same
  · cases hC

/-! ### Tables of summaries -/

/-- A function, how many numbers its arguments have, the polynomials that it gives, and for bounds of the lengths of its arguments those of its results. -/
structure Sm where
  f : Nat
  shp : List Nat
  res : List Num
  ts : List (Nat × List Nat)
def zipN : List Num → List Nat → List (Num × Nat)
  | n :: r, j :: s => (n, j) :: zipN r s
  | _, _ => []
def pickT (ns : List (Num × Nat)) : List (Nat × List Nat) → Option (Nat × List Nat)
  | [] => none
  | t :: r => match bndJ t.1 ns with | true => some t | false => pickT ns r
theorem pickT_mem {ns : List (Num × Nat)} : ∀ {l : List (Nat × List Nat)} {t : Nat × List Nat}, pickT ns l = some t → t ∈ l
  | t :: r, u, h => by
    unfold pickT at h
    split at h
    · cases h; exact List.mem_cons_self
    · exact List.mem_cons_of_mem _ (pickT_mem h)
def lfSm (s : Sm) : Leaf := fun args st C => match numsA args with
  | some ns => (match pickT ns s.ts with
    | some t => lfSum t.1 s.shp (zipN s.res t.2) args st C
    | none => false)
  | none => false
def exOf : List Sm → List (Nat × Leaf)
  | [] => []
  | s :: r => (s.f, lfSm s) :: exOf r
noncomputable def smB (ex : List (Nat × Leaf)) (s : Sm) : Bool := funB Tryz.prog s.f && s.ts.all fun t => sumB t.1 ex s.f s.shp (zipN s.res t.2)
theorem exOf_mem : ∀ {l : List Sm} {p : Nat × Leaf}, p ∈ exOf l → ∃ s ∈ l, p = (s.f, lfSm s)
  | s :: r, p, h => by
    rcases List.mem_cons.1 h with rfl | h
    · exact ⟨s, List.mem_cons_self, rfl⟩
    · obtain ⟨t, h1, h2⟩ := exOf_mem h
      exact ⟨t, List.mem_cons_of_mem _ h1, h2⟩
theorem exSm {ex : List (Nat × Leaf)} (hx : ExOk ex) {l : List Sm} (h : l.all (smB ex) = true) : ExOk (exOf l) := fun E hD p hp => by
  obtain ⟨s, hs, rfl⟩ := exOf_mem hp
  have hb := List.all_eq_true.1 h s hs
  unfold smB at hb
  rw [Bool.and_eq_true] at hb
  intro args st C hC
  have hC : lfSm s args st C = true := hC
  unfold lfSm at hC
  split at hC
  · split at hC
    · rename_i t ht
      exact lfSum_ok hD ⟨hb.1⟩ hx (List.all_eq_true.1 hb.2 t (pickT_mem ht)) args st C hC
    · cases hC
  · cases hC
end Go.Proofs.YtfjakjaakbnklaaGreatDoor

/-
  Summaries: functions whose results are polynomials in their arguments.
-/
namespace Go.Proofs.YtfjakjaakbnklaaGreatDoor
open Go.RowKit
set_option maxRecDepth 10000000
def sm_Sum_0 : Sm := ⟨96, [3,3], [⟨[([0], .ofNat 1), ([24], .ofNat 1)], 0⟩, ⟨[([8], .ofNat 1), ([32], .ofNat 1)], 0⟩, ⟨[([16], .ofNat 1), ([40], .ofNat 1)], 0⟩], [(20, [43, 43, 43]), (400, [803, 803, 803]), (8000, [16003, 16003, 16003]), (160000, [320003, 320003, 320003]), (3200000, [6400003, 6400003, 6400003])]⟩
def sm_Sum_1 : Sm := ⟨95, [3,3], [⟨[([0], .ofNat 1), ([24], .negSucc 0)], 0⟩, ⟨[([8], .ofNat 1), ([32], .negSucc 0)], 0⟩, ⟨[([16], .ofNat 1), ([40], .negSucc 0)], 0⟩], [(20, [43, 43, 43]), (400, [803, 803, 803]), (8000, [16003, 16003, 16003]), (160000, [320003, 320003, 320003]), (3200000, [6400003, 6400003, 6400003])]⟩
def sm_Sum_2 : Sm := ⟨97, [1,3], [⟨[([0, 8], .ofNat 1)], 0⟩, ⟨[([0, 16], .ofNat 1)], 0⟩, ⟨[([0, 24], .ofNat 1)], 0⟩], [(20, [42, 42, 42]), (400, [802, 802, 802]), (8000, [16002, 16002, 16002]), (160000, [320002, 320002, 320002]), (3200000, [6400002, 6400002, 6400002])]⟩
def sm_Sum_3 : Sm := ⟨100, [3,3], [⟨[([0, 24], .ofNat 1), ([8, 32], .ofNat 1), ([16, 40], .ofNat 1)], 0⟩], [(20, [135]), (400, [2415]), (8000, [48015]), (160000, [960015]), (3200000, [19200015])]⟩
def sm_Sum_4 : Sm := ⟨99, [3,3], [⟨[([8, 40], .ofNat 1), ([16, 32], .negSucc 0)], 0⟩, ⟨[([0, 40], .negSucc 0), ([16, 24], .ofNat 1)], 0⟩, ⟨[([0, 32], .ofNat 1), ([8, 24], .negSucc 0)], 0⟩], [(20, [87, 87, 87]), (400, [1607, 1607, 1607]), (8000, [32007, 32007, 32007]), (160000, [640007, 640007, 640007]), (3200000, [12800007, 12800007, 12800007])]⟩
def sm_Sum_5 : Sm := ⟨151, [3,3,3], [⟨[([0, 32, 64], .ofNat 1), ([0, 40, 56], .negSucc 0), ([8, 24, 64], .negSucc 0), ([8, 40, 48], .ofNat 1), ([16, 24, 56], .ofNat 1), ([16, 32, 48], .negSucc 0)], 0⟩], [(20, [336]), (400, [6036]), (8000, [120036]), (160000, [2400036]), (3200000, [48000036])]⟩
def sm_Sum_6 : Sm := ⟨160, [3,3], [⟨[([0], .ofNat 1), ([24], .ofNat 1)], 0⟩, ⟨[([8], .ofNat 1), ([32], .ofNat 1)], 0⟩, ⟨[([16], .ofNat 1), ([40], .ofNat 1)], 0⟩], [(20, [43, 43, 43]), (400, [803, 803, 803]), (8000, [16003, 16003, 16003]), (160000, [320003, 320003, 320003]), (3200000, [6400003, 6400003, 6400003])]⟩
def sm_Sum_7 : Sm := ⟨148, [3,3], [⟨[([0], .ofNat 1), ([24], .negSucc 0)], 0⟩, ⟨[([8], .ofNat 1), ([32], .negSucc 0)], 0⟩, ⟨[([16], .ofNat 1), ([40], .negSucc 0)], 0⟩], [(20, [43, 43, 43]), (400, [803, 803, 803]), (8000, [16003, 16003, 16003]), (160000, [320003, 320003, 320003]), (3200000, [6400003, 6400003, 6400003])]⟩
def sm_Sum_8 : Sm := ⟨76, [1,3], [⟨[([0, 8], .ofNat 1)], 0⟩, ⟨[([0, 16], .ofNat 1)], 0⟩, ⟨[([0, 24], .ofNat 1)], 0⟩], [(20, [42, 42, 42]), (400, [802, 802, 802]), (8000, [16002, 16002, 16002]), (160000, [320002, 320002, 320002]), (3200000, [6400002, 6400002, 6400002])]⟩
def sm_Sum_9 : Sm := ⟨149, [3,3], [⟨[([0, 24], .ofNat 1), ([8, 32], .ofNat 1), ([16, 40], .ofNat 1)], 0⟩], [(20, [135]), (400, [2415]), (8000, [48015]), (160000, [960015]), (3200000, [19200015])]⟩
def sm_Sum_10 : Sm := ⟨147, [3,3], [⟨[([8, 40], .ofNat 1), ([16, 32], .negSucc 0)], 0⟩, ⟨[([0, 40], .negSucc 0), ([16, 24], .ofNat 1)], 0⟩, ⟨[([0, 32], .ofNat 1), ([8, 24], .negSucc 0)], 0⟩], [(20, [87, 87, 87]), (400, [1607, 1607, 1607]), (8000, [32007, 32007, 32007]), (160000, [640007, 640007, 640007]), (3200000, [12800007, 12800007, 12800007])]⟩
def sm_Sum_11 : Sm := ⟨152, [3,3,3], [⟨[([0, 32, 64], .ofNat 1), ([0, 40, 56], .negSucc 0), ([8, 24, 64], .negSucc 0), ([8, 40, 48], .ofNat 1), ([16, 24, 56], .ofNat 1), ([16, 32, 48], .negSucc 0)], 0⟩], [(20, [336]), (400, [6036]), (8000, [120036]), (160000, [2400036]), (3200000, [48000036])]⟩
def sumsSum : List Sm := [sm_Sum_0, sm_Sum_1, sm_Sum_2, sm_Sum_3, sm_Sum_4, sm_Sum_5, sm_Sum_6, sm_Sum_7, sm_Sum_8, sm_Sum_9, sm_Sum_10, sm_Sum_11]
theorem sumsSum_ok : ExOk (exOf sumsSum) := exSm noEx (by kernel_rfl)
end Go.Proofs.YtfjakjaakbnklaaGreatDoor
