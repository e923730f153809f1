/-
  Several texts in one: Fl.
-/
import Derived.Test.YtbkkecihjaokpaaGreatDoorFy
import Derived.Test.YtbkkecihjaokpaaGreatDoorGt

/-
  The executor, last part: the calls that the program knows, and laws.
-/
namespace Go.Proofs.YtbkkecihjaokpaaGreatDoor
open Go.RowKit
set_option linter.unusedVariables false
set_option linter.unusedSimpArgs false
set_option maxRecDepth 100000

def lfAt : List (Nat × Leaf) → Nat → Option Leaf
  | [], _ => none
  | p :: r, f => match Nat.beq p.1 f with | true => some p.2 | false => lfAt r f
theorem lfAt_ok {P : Program} {A : World → Prop} {E : Env} : ∀ {l : List (Nat × Leaf)}, (∀ p ∈ l, LfOk P A E p.1 p.2) → ∀ {f : Nat} {lf : Leaf}, lfAt l f = some lf → LfOk P A E f lf
  | [], _, _, _, h => by cases h
  | p :: r, hl, f, lf, h => by
    unfold lfAt at h
    split at h
    · rename_i hb
      cases h
      rw [← Nat.eq_of_beq_eq_true hb]
      exact hl p List.mem_cons_self
    · exact lfAt_ok (fun p hp => hl p (List.mem_cons_of_mem _ hp)) h

/-- Light, of the lists that v tells of. -/
def lfLight (v : List Bool) : Leaf := fun args st C => match args with
  | [.one (.ints a)] => match v[a]? with
    | some b => C [(one (.one (.b b)), st)]
    | none => false
  | _ => false
/-- A call without arguments that gives true. -/
def lfTrue : Leaf := fun args st C => match args with
  | [] => C [(one (.one (.b true)), st)]
  | _ => false

def lvs (tab : Tab) (inf : Inf) (n : Nat) (v : List Bool) (aw : List Nat) : List (Nat × Leaf) := [
  (129, lf2 nadd 3), (120, lf2 nadd 3),
  (131, lf2 nmul 2), (43, lf2 nmul 2),
  (130, lf2 nsub 3), (121, lf2 nsub 3),
  (127, lfSame tab inf), (30, lfSame tab inf),
  (128, lfSign tab inf), (40, lfSign tab inf),
  (140, lfCmp tab inf), (66, lfCmp tab inf),
  (135, lfInt), (83, lfInt),
  (161, lfNeg), (162, lfNeg),
  (154, lfMin tab inf), (150, lfMin tab inf),
  (153, lfMax tab inf), (151, lfMax tab inf),
  (158, lfMid), (159, lfMid),
  (134, lfQuo tab inf), (118, lfOver tab inf),
  (15, lfLight v),
  (17, lfRoll),
  (126, lfNumberN n)] ++ aw.map fun f => (f, lfTrue)

theorem c_quo0 {j k : Nat} {x : Rat} : Ctr Tryz.prog Amb 134 [nm j x, nm k 0] (.tup [.agg [.v (.bool false), .v (.slice none 0 0), .v (.slice none 0 0)], .one (.v (.int .i64 3))]) :=
  ctr_2 fun W0 μ sz w u v ht hu hv => by
    obtain ⟨h1, h2⟩ := cv_nm hu
    obtain ⟨h3, h4⟩ := cv_nm hv
    refine (quo_zero h1 h3 rfl).mono ?_
    rintro e w' ⟨rfl, k3⟩
    refine ⟨_, rfl, k3, [.agg #[.bool false, .slice none 0 0, .slice none 0 0], .int .i64 3], rfl, rfl, fun i a b ha hb => ?_⟩
    match i with
    | 0 => simp at ha hb; subst ha; subst hb; exact ⟨[.bool false, .slice none 0 0, .slice none 0 0], rfl, All2.self _⟩
    | 1 => simp at ha hb; subst ha; subst hb; rfl
    | i + 2 => simp at ha

/-- What the lists that are light are. -/
def LightEnv (E : Env) (v : List Bool) : Prop := ∀ (a : Nat) b, v[a]? = some b → decide (((E.L a).length : Int) ≤ 500) = b
def AwOk (aw : List Nat) : Prop := ∀ f ∈ aw, Fun Tryz.prog f ∧ Ctr Tryz.prog Amb f [] (.one (.v (.bool true)))

theorem lfLight_ok {E : Env} {v : List Bool} (hv : LightEnv E v) : LfOk Tryz.prog Amb E 15 (lfLight v) := fun args st C hC => by
  replace hC : (match (generalizing := false) args with
    | [.one (.ints a)] => match v[a]? with
      | some b => C [(one (.one (.b b)), st)]
      | none => false
    | _ => false) = true := hC
  split at hC
  · rename_i a
    split at hC
    · rename_i b hb
      refine ⟨_, hC, fun hs => ⟨_, List.mem_singleton.2 rfl, hs, rfl, rfl, callOk_one inferInstance ?_⟩⟩
      show Ctr Tryz.prog Amb _ [.one (.ints (E.L a))] (.one (.v (.bool b)))
      rw [← hv a b hb]
      exact d_light (E.L a)
    · cases hC
  · cases hC
theorem lfTrue_ok {E : Env} {f : Nat} (hf : Fun Tryz.prog f ∧ Ctr Tryz.prog Amb f [] (.one (.v (.bool true)))) : LfOk Tryz.prog Amb E f lfTrue := fun args st C hC => by
  replace hC : (match (generalizing := false) args with
    | [] => C [(one (.one (.b true)), st)]
    | _ => false) = true := hC
  split at hC
  · exact ⟨_, hC, fun hs => ⟨_, List.mem_singleton.2 rfl, hs, rfl, rfl, callOk_one hf.1 hf.2⟩⟩
  · cases hC

theorem lvs_ok {E : Env} {tab : Tab} {inf : Inf} {n : Nat} {v : List Bool} {aw : List Nat} (hT : TabOk E tab) (hI : InfOk E inf) (hD : DiceEnv E n) (hv : LightEnv E v) (ha : AwOk aw) : ∀ p ∈ lvs tab inf n v aw, LfOk Tryz.prog Amb E p.1 p.2 := by
  intro p hp
  rcases List.mem_append.1 hp with hp | hp
  · simp only [List.mem_cons, List.not_mem_nil, or_false] at hp
    rcases hp with rfl | rfl | rfl | rfl | rfl | rfl | rfl | rfl | rfl | rfl | rfl | rfl | rfl | rfl | rfl | rfl | rfl | rfl | rfl | rfl | rfl | rfl | rfl | rfl | rfl | rfl | rfl
    · exact lf2_ok inferInstance (fun a b => nadd_ev a b) (fun h k => c_add h k)
    · exact lf2_ok inferInstance (fun a b => nadd_ev a b) (fun h k => r_add h k)
    · exact lf2_ok inferInstance (fun a b => nmul_ev a b) (fun h k => c_mul h k)
    · exact lf2_ok inferInstance (fun a b => nmul_ev a b) (fun h k => r_mul h k)
    · exact lf2_ok inferInstance (fun a b => nsub_ev a b) (fun h k => c_sub h k)
    · exact lf2_ok inferInstance (fun a b => nsub_ev a b) (fun h k => r_sub h k)
    · exact lfSame_ok hT hI inferInstance c_same
    · exact lfSame_ok hT hI inferInstance r_same
    · exact lfSign_ok hT hI inferInstance c_sign
    · exact lfSign_ok hT hI inferInstance r_sign
    · exact lfCmp_ok hT hI inferInstance (fun h k => c_cmp h k)
    · exact lfCmp_ok hT hI inferInstance (fun h k => r_cmp h k)
    · exact lfInt_ok inferInstance (fun h => c_int h)
    · exact lfInt_ok inferInstance (fun h => r_int h)
    · exact lfNeg_ok inferInstance (fun h => c_neg h)
    · exact lfNeg_ok inferInstance (fun h => r_neg)
    · exact lfMin_ok hT hI inferInstance (fun h k => c_min h k)
    · exact lfMin_ok hT hI inferInstance (fun h k => r_min h k)
    · exact lfMax_ok hT hI inferInstance (fun h k => c_max h k)
    · exact lfMax_ok hT hI inferInstance (fun h k => r_max h k)
    · exact lfMid_ok inferInstance (fun h k => c_mid h k)
    · exact lfMid_ok inferInstance (fun h k => r_mid h k)
    · exact lfQuo_ok hT hI inferInstance (fun h k h0 => c_quo h k h0) c_quo0
    · exact lfOver_ok hT hI inferInstance (fun h k h0 => r_over h k h0)
    · exact lfLight_ok hv
    · exact lfRoll_ok hD inferInstance
    · exact lfNumber_ok hD inferInstance
  · obtain ⟨f, hf, rfl⟩ := List.mem_map.1 hp
    exact lfTrue_ok (ha f hf)

/-! ### Runs -/

def cfg (tab : Tab) (inf : Inf) (n : Nat) (v : List Bool) (aw : List Nat) : Cfg := ⟨tys, lfAt (lvs tab inf n v aw)⟩
def isTrue (l : List (CO × S)) : Bool := l.all fun p => kaeq p.1.r (.one (.b true)) && p.1.nb.isNone && p.1.ro.isEmpty && p.1.rw.isEmpty
def st0 : S := ⟨.nil, [], 0, []⟩
/-- The function gives true, down all ways. -/
noncomputable def runB (tab : Tab) (inf : Inf) (n : Nat) (v : List Bool) (aw : List Nat) (f : Nat) (args : List KA) : Bool := callF Tryz.prog (cfg tab inf n v aw) 30 f args st0 isTrue

theorem tys_ok : TyOk Tryz.prog tys := tyAt_ok (show tabB Tryz.prog tys = true by kernel_rfl)
theorem funs_ok : funsB Tryz.prog = true := by kernel_rfl
theorem mixed : Tryz.prog.follows .mixedOrders = true := by kernel_rfl

theorem run_ok {E : Env} {tab : Tab} {inf : Inf} {n : Nat} {v : List Bool} {aw : List Nat} (hT : TabOk E tab) (hI : InfOk E inf) (hD : DiceEnv E n) (hv : LightEnv E v) (ha : AwOk aw) {f : Nat} {args : List KA} (h : runB tab inf n v aw f args = true) :
    Ctr Tryz.prog Amb f (args.map (aK E)) (.one (.v (.bool true))) := by
  obtain ⟨l, h1, h2⟩ := callF_ok (P := Tryz.prog) (A := Amb) (E := E) (cf := cfg tab inf n v aw) mixed funs_ok tys_ok (fun {f lf} hlf => lfAt_ok (lvs_ok hT hI hD hv ha) hlf) 30 f args st0 isTrue h
  obtain ⟨q, hq, _, _, _, hco⟩ := h2 (fun f hf => by cases hf)
  have := List.all_eq_true.1 h1 q hq
  simp only [Bool.and_eq_true, List.isEmpty_iff] at this
  obtain ⟨⟨⟨e1, e2⟩, e3⟩, e4⟩ := this
  have hm := hco.m (isNone_ok e2)
  rw [e3, e4, kaeq_ok e1] at hm
  exact hm

/-! ### The inputs -/

def baseV (L : Nat → List Int) (v : Nat) : Rat := (numb (L (v % 8)) (posL (L (v % 8)) (v / 8))).1
def extV (V : Nat → Rat) : Tab → Nat → Rat
  | [] => V
  | (a, D) :: r => extV (fun v => if v = a then (evP V D)⁻¹ else V v) r
def noA (a : Nat) (p : Poly) : Bool := p.all fun t => !t.1.any (Nat.beq a)
/-- Each polynomial of the table speaks of no later atom. -/
def tabG : Tab → Bool
  | [] => true
  | (a, D) :: r => Nat.beq (a % 8) 7 && noA a D && r.all (fun x => noA x.1 D && !Nat.beq x.1 a) && tabG r
theorem evM_congr {V V' : Nat → Rat} : ∀ {m : Mono}, (∀ a ∈ m, V a = V' a) → evM V m = evM V' m
  | [], _ => rfl
  | a :: m, h => by
    show V a * evM V m = V' a * evM V' m
    rw [h a List.mem_cons_self, evM_congr fun b hb => h b (List.mem_cons_of_mem _ hb)]
theorem evP_congr {V V' : Nat → Rat} : ∀ {p : Poly}, (∀ t ∈ p, ∀ a ∈ t.1, V a = V' a) → evP V p = evP V' p
  | [], _ => rfl
  | (m, c) :: p, h => by
    show (c : Rat) * evM V m + evP V p = (c : Rat) * evM V' m + evP V' p
    rw [evM_congr (h (m, c) List.mem_cons_self), evP_congr fun t ht => h t (List.mem_cons_of_mem _ ht)]
theorem noA_ok {a : Nat} {p : Poly} (h : noA a p = true) : ∀ t ∈ p, a ∉ t.1 := fun t ht hm => by
  have := List.all_eq_true.1 h t ht
  rw [Bool.not_eq_true'] at this
  have h2 : t.1.any (Nat.beq a) = true := List.any_eq_true.2 ⟨a, hm, by simp⟩
  rw [this] at h2
  cases h2
theorem extV_out : ∀ {tab : Tab} {V : Nat → Rat} {v : Nat}, (∀ x ∈ tab, x.1 ≠ v) → extV V tab v = V v
  | [], _, _, _ => rfl
  | (a, D) :: r, V, v, h => by
    show extV (fun v => if v = a then (evP V D)⁻¹ else V v) r v = V v
    rw [extV_out fun x hx => h x (List.mem_cons_of_mem _ hx)]
    exact if_neg fun e => h (a, D) List.mem_cons_self e.symm
theorem extV_tab : ∀ {tab : Tab} {V : Nat → Rat}, tabG tab = true → ∀ x ∈ tab, evP (extV V tab) x.2 ≠ 0 → extV V tab x.1 * evP (extV V tab) x.2 = 1
  | (a, D) :: r, V, h, x, hx => by
    unfold tabG at h
    simp only [Bool.and_eq_true] at h
    obtain ⟨⟨⟨_, h2⟩, h3⟩, h4⟩ := h
    rcases List.mem_cons.1 hx with rfl | hx
    · have hr : ∀ y ∈ r, noA y.1 D = true ∧ y.1 ≠ a := fun y hy => by
        have := List.all_eq_true.1 h3 y hy
        rw [Bool.and_eq_true, Bool.not_eq_true'] at this
        exact ⟨this.1, fun e => by rw [e] at this; simp at this⟩
      show evP (extV (fun v => if v = a then (evP V D)⁻¹ else V v) r) D ≠ 0 → extV (fun v => if v = a then (evP V D)⁻¹ else V v) r a * evP (extV (fun v => if v = a then (evP V D)⁻¹ else V v) r) D = 1
      have e1 : extV (fun v => if v = a then (evP V D)⁻¹ else V v) r a = (evP V D)⁻¹ := by
        rw [extV_out fun y hy => (hr y hy).2]
        exact if_pos rfl
      have e2 : evP (extV (fun v => if v = a then (evP V D)⁻¹ else V v) r) D = evP V D := evP_congr fun t ht b hb => by
        rw [extV_out fun y hy => fun e => noA_ok (hr y hy).1 t ht (by rw [e]; exact hb)]
        exact if_neg fun e => noA_ok h2 t ht (by rw [← e]; exact hb)
      rw [e1, e2]
      intro h0
      exact Rat.inv_mul_cancel _ h0
    · exact extV_tab h4 x hx
theorem tabG_7 : ∀ {tab : Tab}, tabG tab = true → ∀ x ∈ tab, x.1 % 8 = 7
  | (a, D) :: r, h, x, hx => by
    unfold tabG at h
    simp only [Bool.and_eq_true] at h
    rcases List.mem_cons.1 hx with rfl | hx
    · exact Nat.eq_of_beq_eq_true h.1.1.1
    · exact tabG_7 h.2 x hx

/-- The inputs of a law: lists that dice give numbers out of. -/
def envL (tab : Tab) (L : Nat → List Int) (I : Nat → Int) : Env := ⟨extV (baseV L) tab, L, fun a h => posL (L a) h, I, fun _ _ _ => 0⟩
theorem envL_tab {tab : Tab} {L : Nat → List Int} {I : Nat → Int} (h : tabG tab = true) : TabOk (envL tab L I) tab := extV_tab h
theorem envL_dice {tab : Tab} {L : Nat → List Int} {I : Nat → Int} {n : Nat} (h : tabG tab = true) (hn : n ≤ 6) (hb : ∀ a, a < n → (∀ x ∈ L a, -9223372036854775808 ≤ x ∧ x < 9223372036854775808) ∧ (L a).length ≤ 500) : DiceEnv (envL tab L I) n := by
  refine ⟨hb, fun a h => rfl, fun a h' ha => ?_⟩
  show extV (baseV L) tab (8 * h' + a) = _
  rw [extV_out fun x hx => fun e => ?_]
  · show (numb (L ((8 * h' + a) % 8)) (posL (L ((8 * h' + a) % 8)) ((8 * h' + a) / 8))).1 = _
    rw [show (8 * h' + a) % 8 = a by omega, show (8 * h' + a) / 8 = h' by omega]
    rfl
  · have := tabG_7 h x hx
    omega

/-- A law over one list. -/
theorem law1 {f : Nat} {tab : Tab} {inf : Inf} {aw : List Nat} (ha : AwOk aw) (ht : tabG tab = true) (hi : ∀ E : Env, TabOk E tab → DiceEnv E 1 → InfOk E inf) (h1 : runB tab inf 1 [true] aw f [.one (.ints 0)] = true) (h2 : runB [] [] 0 [false] aw f [.one (.ints 0)] = true)
    {l : List Int} (hb : ∀ x ∈ l, -9223372036854775808 ≤ x ∧ x < 9223372036854775808) : Ctr Tryz.prog Amb f [.one (.ints l)] (.one (.v (.bool true))) := by
  by_cases hl : (l.length : Int) ≤ 500
  · have hd := envL_dice (tab := tab) (L := fun _ => l) (I := fun _ => 0) (n := 1) ht (by decide) fun a _ => ⟨hb, by omega⟩
    have hT := envL_tab (tab := tab) (L := fun _ => l) (I := fun _ => 0) ht
    exact run_ok hT (hi _ hT hd) hd (fun a b h => by
      match a, h with
      | 0, h => cases h; exact decide_eq_true hl
      | a + 1, h => simp at h) ha h1
  · have hd := envL_dice (tab := []) (L := fun _ => l) (I := fun _ => 0) (n := 0) rfl (by decide) fun a h => absurd h (Nat.not_lt_zero a)
    exact run_ok (envL_tab rfl) (fun h hh => by cases hh) hd (fun a b h => by
      match a, h with
      | 0, h => cases h; exact decide_eq_false hl
      | a + 1, h => simp at h) ha h2
theorem noInf (E : Env) : InfOk E [] := fun h hh => by cases hh
/-- A check of the chapter's examples. -/
theorem awake_of {f : Nat} (hF : Fun Tryz.prog f) (h : runB [] [] 0 [] [] f [] = true) : AwOk [f] := fun g hg => by
  obtain rfl := List.mem_singleton.1 hg
  exact ⟨hF, run_ok (E := envL [] (fun _ => []) fun _ => 0) (envL_tab rfl) (noInf _) (envL_dice rfl (by decide) fun a h => absurd h (Nat.not_lt_zero a)) (fun a b h => by simp at h) (fun f hf => by cases hf) h⟩
end Go.Proofs.YtbkkecihjaokpaaGreatDoor
