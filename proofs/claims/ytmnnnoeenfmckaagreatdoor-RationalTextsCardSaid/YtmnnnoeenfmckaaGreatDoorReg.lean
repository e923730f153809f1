/-
  Regions that load values, call functions which give numbers, and lay the numbers into variables of their own, in whatever order.
-/
import Derived.Test.YtmnnnoeenfmckaaGreatDoorInv
import Derived.Test.YtmnnnoeenfmckaaGreatDoorBj
namespace Go.Proofs.YtmnnnoeenfmckaaGreatDoor
open Go.RowKit

/-- A variable of a number: the operation that makes it, the one that fills it, and the one that gives the number. -/
structure Cel where
  al : Nat
  st : Nat
  cl : Nat

/-- What the operations of a region give: plain values, numbers, what another one gave, variables. -/
structure Plan where
  pure : List (Nat × Value)
  calls : List (Nat × Rat)
  copies : List (Nat × Nat)
  cells : List Cel

def zeroV : Value := .agg #[.bool false, .slice none 0 0, .slice none 0 0]
def ptrV (g : Nat) : Value := .pointer (some ⟨g, 0, none⟩)

/-- The block g holds the struct v, of a sign and two lists. -/
def Cell3 (w : World) (g : Nat) (v : Value) : Prop := ∃ (s : Bool) (o1 : Option Addr) (l1 c1 : Nat) (o2 : Option Addr) (l2 c2 : Nat), v = .agg #[.bool s, .slice o1 l1 c1, .slice o2 l2 c2] ∧ Res w g (.bool s) (.slice o1 l1 c1) (.slice o2 l2 c2)

theorem Cell3.kp {w w' : World} {g : Nat} {v : Value} (h : Cell3 w g v) (k : Kp w w') : Cell3 w' g v := by
  obtain ⟨s, o1, l1, c1, o2, l2, c2, e, h⟩ := h
  exact ⟨s, o1, l1, c1, o2, l2, c2, e, h.kp k⟩

theorem Res.off {w : World} {g g2 : Nat} {a b c x y z : Value} (h : Res w g a b c) (hg : g ≠ g2) : Res (stored w g2 x y z) g a b c := by
  unfold Res stored
  rw [heap_setCell_other _ _ _ _ (show g ≠ (⟨g2, 2, none⟩ : Addr).block from hg), heap_setCell_other _ _ _ _ (show g ≠ (⟨g2, 1, none⟩ : Addr).block from hg), heap_setCell_other _ _ _ _ (show g ≠ (⟨g2, 0, none⟩ : Addr).block from hg)]
  exact h

theorem Cell3.off {w : World} {g g2 : Nat} {v x y z : Value} (h : Cell3 w g v) (hg : g ≠ g2) : Cell3 (stored w g2 x y z) g v := by
  obtain ⟨s, o1, l1, c1, o2, l2, c2, e, h⟩ := h
  exact ⟨s, o1, l1, c1, o2, l2, c2, e, h.off hg⟩

theorem Cell3.lt {w : World} {g : Nat} {v : Value} (h : Cell3 w g v) : g < w.heap.size := by
  obtain ⟨s, o1, l1, c1, o2, l2, c2, e, h⟩ := h
  exact (Array.getElem?_eq_some_iff.1 h).1

/-- What holds in the midst of such a region that began in the world w0. -/
structure PJ (S : Plan) (w0 : World) (b : Nat → Bool) (f : Nat → Value) (w : World) : Prop where
  k : Kp w0 w
  pure : ∀ i v, S.pure.lookup i = some v → b i = true → f i = v
  call : ∀ i X, S.calls.lookup i = some X → b i = true → RatV w (f i) X
  copy : ∀ i j, S.copies.lookup i = some j → b i = true → f i = f j ∧ b j = true
  cell : ∀ c ∈ S.cells, b c.al = true → ∃ g, f c.al = ptrV g ∧ w0.heap.size ≤ g ∧ Cell3 w g (if b c.st = true then f c.cl else zeroV)
  far : ∀ c ∈ S.cells, ∀ c' ∈ S.cells, c.al ≠ c'.al → b c.al = true → b c'.al = true → f c.al ≠ f c'.al
  ord : ∀ c ∈ S.cells, b c.st = true → b c.cl = true ∧ b c.al = true

theorem up_self (b : Nat → Bool) (i : Nat) : up b i i = true := by simp [up]
theorem up_ne {b : Nat → Bool} {i j : Nat} (h : j ≠ i) : up b i j = b j := by simp [up, h]
theorem up_mono {b : Nat → Bool} {i j : Nat} (h : b j = true) : up b i j = true := by unfold up; rw [h, Bool.or_true]
theorem setF_self (f : Nat → Value) (i : Nat) (v : Value) : setF f i v i = v := if_pos rfl
theorem setF_ne {f : Nat → Value} {i j : Nat} {v : Value} (h : j ≠ i) : setF f i v j = f j := if_neg h
theorem ne_of_bits {b : Nat → Bool} {i j : Nat} (hi : b i = false) (hj : b j = true) : j ≠ i := fun e => by rw [e, hi] at hj; cases hj

theorem PJ.begin (S : Plan) (w0 : World) (f : Nat → Value) : PJ S w0.drew (fun _ => false) f w0.drew :=
  ⟨Below.refl _ _, fun _ _ _ h => (by cases h), fun _ _ _ h => (by cases h), fun _ _ _ h => (by cases h), fun _ _ h => (by cases h), fun _ _ _ _ _ h => (by cases h), fun _ _ h => (by cases h)⟩

theorem PJ.later {S : Plan} {w0 w w' : World} {b : Nat → Bool} {f : Nat → Value} (h : PJ S w0 b f w) (kk : Kp w w') : PJ S w0 b f w' :=
  ⟨h.k.tr kk, h.pure, fun i X hm hb => (h.call i X hm hb).kp kk, h.copy, fun c hm hb => by
    obtain ⟨g, h1, h2, h3⟩ := h.cell c hm hb
    exact ⟨g, h1, h2, h3.kp kk⟩, h.far, h.ord⟩

/-- No variable is touched by the operation i. -/
def Plan.calm (S : Plan) (i : Nat) : Bool := S.cells.all fun c => c.al != i && c.st != i
theorem Plan.calm_spec {S : Plan} {i : Nat} (h : S.calm i = true) (c : Cel) (hm : c ∈ S.cells) : c.al ≠ i ∧ c.st ≠ i := by
  unfold Plan.calm at h
  have := List.all_eq_true.1 h c hm
  simpa using this

/-- An operation that gives v: what is known of i must hold of v. -/
theorem PJ.step {S : Plan} {w0 w : World} {b : Nat → Bool} {f : Nat → Value} (h : PJ S w0 b f w) (i : Nat) (v : Value) (hb : b i = false) (hp : ∀ u, S.pure.lookup i = some u → v = u) (hc : ∀ X, S.calls.lookup i = some X → RatV w v X)
    (hy : ∀ j, S.copies.lookup i = some j → v = f j ∧ b j = true) (hl : S.calm i = true) : PJ S w0 (up b i) (setF f i v) w := by
  refine ⟨h.k, fun p u hm hb2 => ?_, fun p X hm hb2 => ?_, fun p j hm hb2 => ?_, fun c hm hb2 => ?_, fun c hm c' hm' hne hb2 hb' => ?_, fun c hm hb2 => ?_⟩
  · by_cases e : p = i
    · subst e; rw [setF_self, hp u hm]
    · rw [up_ne e] at hb2; rw [setF_ne e]; exact h.pure p u hm hb2
  · by_cases e : p = i
    · subst e; rw [setF_self]; exact hc X hm
    · rw [up_ne e] at hb2; rw [setF_ne e]; exact h.call p X hm hb2
  · by_cases e : p = i
    · subst e
      obtain ⟨h1, h2⟩ := hy j hm
      rw [setF_self, setF_ne (ne_of_bits hb h2)]
      exact ⟨h1, up_mono h2⟩
    · rw [up_ne e] at hb2
      obtain ⟨h1, h2⟩ := h.copy p j hm hb2
      rw [setF_ne e, setF_ne (ne_of_bits hb h2)]
      exact ⟨h1, up_mono h2⟩
  · obtain ⟨e1, e2⟩ := Plan.calm_spec hl c hm
    rw [up_ne e1] at hb2; rw [setF_ne e1, up_ne e2]
    obtain ⟨g, h1, h2, h3⟩ := h.cell c hm hb2
    refine ⟨g, h1, h2, ?_⟩
    by_cases e : c.cl = i
    · have : b c.st = false := by
        cases hst : b c.st with
        | false => rfl
        | true => have := (h.ord c hm hst).1; rw [e, hb] at this; cases this
      rw [this] at h3 ⊢
      exact h3
    · rw [setF_ne e]; exact h3
  · obtain ⟨e1, _⟩ := Plan.calm_spec hl c hm
    obtain ⟨e1', _⟩ := Plan.calm_spec hl c' hm'
    rw [up_ne e1] at hb2; rw [up_ne e1'] at hb'
    rw [setF_ne e1, setF_ne e1']; exact h.far c hm c' hm' hne hb2 hb'
  · obtain ⟨e1, e2⟩ := Plan.calm_spec hl c hm
    rw [up_ne e2] at hb2
    obtain ⟨h1, h2⟩ := h.ord c hm hb2
    exact ⟨up_mono h1, up_mono h2⟩

theorem no_some {α : Type} {o : Option α} {p : α → Prop} (h : o = none) : ∀ u, o = some u → p u := fun u e => by rw [h] at e; cases e
theorem the_some {α : Type} {o : Option α} {a : α} {p : α → Prop} (h : o = some a) (ha : p a) : ∀ u, o = some u → p u := fun u e => by rw [h] at e; cases e; exact ha

theorem PJ.pureStep {S : Plan} {w0 w : World} {b : Nat → Bool} {f : Nat → Value} (h : PJ S w0 b f w) (i : Nat) (v : Value) (hb : b i = false) (hp : S.pure.lookup i = some v) (hc : S.calls.lookup i = none) (hy : S.copies.lookup i = none) (hl : S.calm i = true) : PJ S w0 (up b i) (setF f i v) w :=
  h.step i v hb (the_some hp rfl) (no_some hc) (no_some hy) hl
theorem PJ.junkStep {S : Plan} {w0 w : World} {b : Nat → Bool} {f : Nat → Value} (h : PJ S w0 b f w) (i : Nat) (v : Value) (hb : b i = false) (hp : S.pure.lookup i = none) (hc : S.calls.lookup i = none) (hy : S.copies.lookup i = none) (hl : S.calm i = true) : PJ S w0 (up b i) (setF f i v) w :=
  h.step i v hb (no_some hp) (no_some hc) (no_some hy) hl
theorem PJ.callStep {S : Plan} {w0 w w' : World} {b : Nat → Bool} {f : Nat → Value} (h : PJ S w0 b f w) (i : Nat) (v : Value) (X : Rat) (hb : b i = false) (kk : Kp w w') (hv : RatV w' v X) (hp : S.pure.lookup i = none) (hc : S.calls.lookup i = some X) (hy : S.copies.lookup i = none) (hl : S.calm i = true) : PJ S w0 (up b i) (setF f i v) w' :=
  (h.later kk).step i v hb (no_some hp) (the_some hc hv) (no_some hy) hl

theorem PJ.allocStep {S : Plan} {w0 w : World} {b : Nat → Bool} {f : Nat → Value} (h : PJ S w0 b f w) (i : Nat) (hb : b i = false) (hp : S.pure.lookup i = none) (hc : S.calls.lookup i = none) (hy : S.copies.lookup i = none)
    (hl : (S.cells.all fun c => c.st != i && c.cl != i) = true) : PJ S w0 (up b i) (setF f i (.pointer (some ⟨w.heap.size, 0, none⟩))) (w.alloc (Obj.cells #[.bool false, .slice none 0 0, .slice none 0 0] 27)) := by
  have kk : Kp w (w.alloc (Obj.cells #[.bool false, .slice none 0 0, .slice none 0 0] 27)) := Kp.alloc _ _
  have hl2 : ∀ c ∈ S.cells, c.st ≠ i ∧ c.cl ≠ i := fun c hm => by simpa using List.all_eq_true.1 hl c hm
  have hold : ∀ c ∈ S.cells, b c.al = true → ∃ g, f c.al = ptrV g ∧ g < w.heap.size := fun c hm hb2 => by
    obtain ⟨g, h1, h2, h3⟩ := h.cell c hm hb2
    exact ⟨g, h1, h3.lt⟩
  have g1 := h.later kk
  refine ⟨h.k.tr kk, fun p u hm hb2 => ?_, fun p X hm hb2 => ?_, fun p j hm hb2 => ?_, fun c hm hb2 => ?_, fun c hm c' hm' hne hb2 hb' => ?_, fun c hm hb2 => ?_⟩
  · by_cases e : p = i
    · subst e; rw [hp] at hm; cases hm
    · rw [up_ne e] at hb2; rw [setF_ne e]; exact h.pure p u hm hb2
  · by_cases e : p = i
    · subst e; rw [hc] at hm; cases hm
    · rw [up_ne e] at hb2; rw [setF_ne e]; exact g1.call p X hm hb2
  · by_cases e : p = i
    · subst e; rw [hy] at hm; cases hm
    · rw [up_ne e] at hb2
      obtain ⟨h1, h2⟩ := h.copy p j hm hb2
      rw [setF_ne e, setF_ne (ne_of_bits hb h2)]
      exact ⟨h1, up_mono h2⟩
  · obtain ⟨e2, e3⟩ := hl2 c hm
    rw [up_ne e2, setF_ne e3]
    by_cases e : c.al = i
    · have : b c.st = false := by
        cases hst : b c.st with
        | false => rfl
        | true => have := (h.ord c hm hst).2; rw [e, hb] at this; cases this
      rw [e, setF_self, this]
      exact ⟨w.heap.size, rfl, h.k.size, _, _, _, _, _, _, _, rfl, Res.new _ _ _ _⟩
    · rw [up_ne e] at hb2; rw [setF_ne e]
      obtain ⟨g, h1, h2, h3⟩ := h.cell c hm hb2
      exact ⟨g, h1, h2, h3.kp kk⟩
  · by_cases e : c.al = i <;> by_cases e' : c'.al = i
    · exact absurd (e.trans e'.symm) hne
    · rw [up_ne e'] at hb'
      rw [e, setF_self, setF_ne e']
      obtain ⟨g, h1, h2⟩ := hold c' hm' hb'
      rw [h1]
      intro he
      simp [ptrV] at he
    · rw [up_ne e] at hb2
      rw [e', setF_self, setF_ne e]
      obtain ⟨g, h1, h2⟩ := hold c hm hb2
      rw [h1]
      intro he
      simp [ptrV] at he
    · rw [up_ne e] at hb2; rw [up_ne e'] at hb'
      rw [setF_ne e, setF_ne e']; exact h.far c hm c' hm' hne hb2 hb'
  · obtain ⟨e2, e3⟩ := hl2 c hm
    rw [up_ne e2] at hb2
    obtain ⟨h1, h2⟩ := h.ord c hm hb2
    exact ⟨up_mono h1, up_mono h2⟩

theorem PJ.storeStep {S : Plan} {w0 w : World} {b : Nat → Bool} {f : Nat → Value} (h : PJ S w0 b f w) (c0 : Cel) (hm0 : c0 ∈ S.cells) (X : Rat) (hX : S.calls.lookup c0.cl = some X) (i : Nat) (hi : c0.st = i) (hb : b i = false) (hba : b c0.al = true) (hbc : b c0.cl = true) (hp : S.pure.lookup i = none) (hc : S.calls.lookup i = none) (hy : S.copies.lookup i = none)
    (hl : ∀ c ∈ S.cells, c.al ≠ i ∧ c.cl ≠ i ∧ (c.st = i → c = c0) ∧ (c.al = c0.al → c = c0)) :
    ∃ (g : Nat) (s : Bool) (o1 : Option Addr) (l1 c1 : Nat) (o2 : Option Addr) (l2 c2 : Nat), f c0.al = .pointer (some ⟨g, 0, none⟩) ∧ f c0.cl = .agg #[.bool s, .slice o1 l1 c1, .slice o2 l2 c2] ∧ Res w g (.bool false) (.slice none 0 0) (.slice none 0 0) ∧
      ∀ u, PJ S w0 (up b i) (setF f i u) (((w.setCell ⟨g, 0, none⟩ (.bool s)).setCell ⟨g, 1, none⟩ (.slice o1 l1 c1)).setCell ⟨g, 2, none⟩ (.slice o2 l2 c2)) := by
  obtain ⟨g, h1, h2, h3⟩ := h.cell c0 hm0 hba
  rw [hi, hb] at h3
  obtain ⟨_, _, _, _, _, _, _, e3, hr⟩ := h3
  have e4 : Res w g (.bool false) (.slice none 0 0) (.slice none 0 0) := by
    simp [zeroV] at e3
    obtain ⟨rfl, ⟨rfl, rfl, rfl⟩, rfl, rfl, rfl⟩ := e3
    exact hr
  have hv := h.call _ _ hX hbc
  obtain ⟨s, o1, l1, c1, o2, l2, c2, hlit⟩ := hv.lit
  refine ⟨g, s, o1, l1, c1, o2, l2, c2, h1, hlit, e4, fun u => ?_⟩
  refine ⟨h.k.put3 h2 _ _ _, fun p v hm hb2 => ?_, fun p Y hm hb2 => ?_, fun p j hm hb2 => ?_, fun c hm hb2 => ?_, fun c hm c' hm' hne hb2 hb' => ?_, fun c hm hb2 => ?_⟩
  · by_cases e : p = i
    · subst e; rw [hp] at hm; cases hm
    · rw [up_ne e] at hb2; rw [setF_ne e]; exact h.pure p v hm hb2
  · by_cases e : p = i
    · subst e; rw [hc] at hm; cases hm
    · rw [up_ne e] at hb2; rw [setF_ne e]
      exact (h.call p Y hm hb2).res e4 (noLimb_bool _) (noLimb_slice _ _ _) (noLimb_slice _ _ _) _ _ _
  · by_cases e : p = i
    · subst e; rw [hy] at hm; cases hm
    · rw [up_ne e] at hb2
      obtain ⟨q1, q2⟩ := h.copy p j hm hb2
      rw [setF_ne e, setF_ne (ne_of_bits hb q2)]
      exact ⟨q1, up_mono q2⟩
  · obtain ⟨e1, e2, e5, e6⟩ := hl c hm
    rw [up_ne e1] at hb2
    rw [setF_ne e1, setF_ne e2]
    by_cases e : c = c0
    · subst e
      rw [hi, up_self, if_pos rfl]
      exact ⟨g, h1, h2, s, o1, l1, c1, o2, l2, c2, hlit, e4.put _ _ _⟩
    · rw [up_ne (fun hh => e (e5 hh))]
      obtain ⟨g2, q1, q2, q3⟩ := h.cell c hm hb2
      refine ⟨g2, q1, q2, q3.off ?_⟩
      rintro rfl
      exact h.far c hm c0 hm0 (fun hh => e (e6 hh)) hb2 hba (q1.trans h1.symm)
  · rw [up_ne (hl c hm).1] at hb2; rw [up_ne (hl c' hm').1] at hb'
    rw [setF_ne (hl c hm).1, setF_ne (hl c' hm').1]; exact h.far c hm c' hm' hne hb2 hb'
  · obtain ⟨e1, e2, e5, e6⟩ := hl c hm
    rw [up_ne e1, up_ne e2]
    by_cases e : c = c0
    · subst e; exact ⟨hbc, hba⟩
    · rw [up_ne (fun hh => e (e5 hh))] at hb2; exact h.ord c hm hb2

/-- A load of a variable that has been filled. -/
theorem PJ.loadStep {S : Plan} {w0 w : World} {b : Nat → Bool} {f : Nat → Value} (h : PJ S w0 b f w) (c0 : Cel) (hm0 : c0 ∈ S.cells) (i : Nat) (hb : b i = false) (hbs : b c0.st = true) (hp : S.pure.lookup i = none) (hc : S.calls.lookup i = none) (hy : S.copies.lookup i = some c0.cl) (hl : S.calm i = true) :
    ∃ (g : Nat) (s : Bool) (o1 : Option Addr) (l1 c1 : Nat) (o2 : Option Addr) (l2 c2 : Nat), f c0.al = .pointer (some ⟨g, 0, none⟩) ∧ Res w g (.bool s) (.slice o1 l1 c1) (.slice o2 l2 c2) ∧ PJ S w0 (up b i) (setF f i (.agg #[.bool s, .slice o1 l1 c1, .slice o2 l2 c2])) w := by
  obtain ⟨hbc, hba⟩ := h.ord c0 hm0 hbs
  obtain ⟨g, h1, h2, h3⟩ := h.cell c0 hm0 hba
  rw [if_pos hbs] at h3
  obtain ⟨s, o1, l1, c1, o2, l2, c2, e, hr⟩ := h3
  exact ⟨g, s, o1, l1, c1, o2, l2, c2, h1, hr, h.step i _ hb (no_some hp) (no_some hc) (the_some hy ⟨e.symm, hbc⟩) hl⟩

/-- A number that was loaded. -/
theorem PJ.num {S : Plan} {w0 w : World} {b : Nat → Bool} {f : Nat → Value} (h : PJ S w0 b f w) (i j : Nat) (X : Rat) (hy : S.copies.lookup i = some j) (hX : S.calls.lookup j = some X) (hb : b i = true) : RatV w (f i) X := by
  obtain ⟨h1, h2⟩ := h.copy i j hy hb
  rw [h1]
  exact h.call j X hX h2

/-- All has come up: the variables hold the numbers. -/
theorem PJ.all {S : Plan} {w0 w : World} {b : Nat → Bool} {f : Nat → Value} (h : PJ S w0 b f w) (c : Cel) (hm : c ∈ S.cells) (X : Rat) (hX : S.calls.lookup c.cl = some X) (hba : b c.al = true) (hbc : b c.cl = true) (hbs : b c.st = true) :
    ∃ (g : Nat) (s : Bool) (o1 : Option Addr) (l1 c1 : Nat) (o2 : Option Addr) (l2 c2 : Nat), f c.al = .pointer (some ⟨g, 0, none⟩) ∧ Res w g (.bool s) (.slice o1 l1 c1) (.slice o2 l2 c2) ∧ RatV w (.agg #[.bool s, .slice o1 l1 c1, .slice o2 l2 c2]) X := by
  obtain ⟨g, h1, _, h3⟩ := h.cell c hm hba
  rw [if_pos hbs] at h3
  obtain ⟨s, o1, l1, c1, o2, l2, c2, e, hr⟩ := h3
  have hv := h.call _ _ hX hbc
  rw [e] at hv
  exact ⟨g, s, o1, l1, c1, o2, l2, c2, h1, hr, hv⟩
end Go.Proofs.YtmnnnoeenfmckaaGreatDoor
