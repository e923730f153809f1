/-
  A region that draws its order, walked once for each operation: what holds of the frame and of the world is said by which operations have come up.
-/
import Derived.Deep.RegionHeld3
namespace Go.Proofs.YtcmbbmfdmohedaaGreatDoor

section
variable {P : Program} {ops : Array Oper} {Q : Exit → Act → World → Prop} {I : (Nat → Bool) → Act → World → Prop}

/-- The operation i has come up, too. -/
def up (b : Nat → Bool) (i : Nat) : Nat → Bool := fun j => j == i || b j

def bitsOf (L : Array Bool) : Nat → Bool := fun j => L.getD j false

theorem bits_up (L : Array Bool) (i : Nat) (h : i < L.size) : bitsOf (L.setIfInBounds i true) = up (bitsOf L) i := by
  funext j
  unfold bitsOf up
  by_cases hij : j = i
  · subst hij; simp [Array.getD_eq_getD_getElem?, h]
  · have : (j == i) = false := by simpa using hij
    rw [this, Bool.false_or]
    exact getD_set_ne false (Ne.symm hij)

/-- On which operations one waits. -/
def waitsOn (o : Oper) : List Nat := (o.after.toList.filter (Region.binds .any)).map (·.on)

/-- The operation i leads from the condition to the condition with i come up. -/
def StepI (P : Program) (ops : Array Oper) (Q : Exit → Act → World → Prop) (I : (Nat → Bool) → Act → World → Prop) (i : Nat) : Prop :=
  ∀ (o : Oper), ops[i]? = some o → ∀ (b : Nat → Bool) (a : Act) (w : World), b i = false → (∀ d ∈ waitsOn o, b d = true) → I b a w → wpOp P ops Q i (I (up b i)) a w

theorem mem_waits {o : Oper} {e : Edge} (he : e ∈ o.after) (hb : Region.binds .any e = true) : e.on ∈ waitsOn o :=
  List.mem_map.2 ⟨e, List.mem_filter.2 ⟨Array.mem_toList_iff.2 he, hb⟩, rfl⟩

theorem of_waits {o : Oper} {d : Nat} (h : d ∈ waitsOn o) : ∃ e ∈ o.after, Region.binds .any e = true ∧ e.on = d := by
  obtain ⟨e, he, rfl⟩ := List.mem_map.1 h
  obtain ⟨h1, h2⟩ := List.mem_filter.1 he
  exact ⟨e, Array.mem_toList_iff.1 h1, h2, rfl⟩

theorem getD_flip {L : Array Bool} {i : Nat} (h : L.getD i false = false) (hi : i < L.size) : L.getD i true = false := by
  simp [Array.getD, hi] at h ⊢; exact h

theorem all_up (hdag : ∀ (i : Nat) (o : Oper), ops[i]? = some o → ∀ d ∈ waitsOn o, d < i) {L : Array Bool} (hL : L.size = ops.size)
    (hr : Region.ready .any ops L = []) : ∀ i, i < ops.size → bitsOf L i = true := by
  intro i
  induction i using Nat.strongRecOn with
  | ind i ih =>
    intro hi
    cases hb : bitsOf L i with
    | true => rfl
    | false =>
      exfalso
      have : i ∈ Region.ready .any ops L := by
        rw [mem_ready]
        refine ⟨getD_flip hb (by rw [hL]; exact hi), ops[i], Array.getElem?_eq_getElem hi, fun e he hbd => ?_⟩
        have hlt := hdag i _ (Array.getElem?_eq_getElem hi) _ (mem_waits he hbd)
        exact ih e.on hlt (Nat.lt_trans hlt hi)
      rw [hr] at this
      cases this

theorem count_set {l : List Bool} : ∀ {i : Nat}, l[i]? = some false → (l.set i true).count false + 1 = l.count false := by
  induction l with
  | nil => intro i h; simp at h
  | cons x l ih =>
    intro i h
    cases i with
    | zero =>
      simp at h
      subst h
      simp
    | succ i =>
      simp at h
      have := ih h
      simp only [List.set_cons_succ, List.count_cons]
      omega

theorem wpAny_inv (hs : ∀ i, i < ops.size → StepI P ops Q I i) (hdag : ∀ (i : Nat) (o : Oper), ops[i]? = some o → ∀ d ∈ waitsOn o, d < i)
    (hend : ∀ b a w, (∀ i, i < ops.size → b i = true) → I b a w → Q .normal a w) :
    ∀ (fuel : Nat) (L : Array Bool) (a : Act) (w : World), L.size = ops.size → L.toList.count false ≤ fuel → I (bitsOf L) a w → wpAny P .any ops Q fuel L a w := by
  intro fuel
  induction fuel with
  | zero =>
    intro L a w hL hc hI
    have hr : Region.ready .any ops L = [] := by
      cases h : Region.ready .any ops L with
      | nil => rfl
      | cons i rs =>
        exfalso
        have hi : i ∈ Region.ready .any ops L := by rw [h]; exact List.mem_cons_self
        obtain ⟨h0, o, ho, _⟩ := mem_ready.1 hi
        have hlt : i < L.size := by rw [hL]; exact (Array.getElem?_eq_some_iff.1 ho).1
        have hf : false ∈ L.toList := by
          have h1 : L[i] = false := by simpa [Array.getD, hlt] using h0
          rw [← h1]
          exact Array.mem_toList_iff.2 (Array.getElem_mem hlt)
        have := List.count_pos_iff.2 hf
        omega
    exact ⟨hr, hend _ _ _ (all_up hdag hL hr) hI⟩
  | succ fuel ih =>
    intro L a w hL hc hI
    refine ⟨fun hr => hend _ _ _ (all_up hdag hL hr) hI, fun i hi => ?_⟩
    obtain ⟨h0, o, ho, hall⟩ := mem_ready.1 hi
    have hlt : i < ops.size := (Array.getElem?_eq_some_iff.1 ho).1
    have hltL : i < L.size := by rw [hL]; exact hlt
    have h1 : L[i] = false := by simpa [Array.getD, hltL] using h0
    have hb : bitsOf L i = false := by simp [bitsOf, Array.getD, hltL, h1]
    refine wpOp_mono (fun a' w' hI' => ?_) (hs i hlt o ho (bitsOf L) a w hb (fun d hd => ?_) hI)
    · refine ih (L.setIfInBounds i true) a' w' (by rw [Array.size_setIfInBounds]; exact hL) ?_ (by rw [bits_up L i hltL]; exact hI')
      rw [Array.toList_setIfInBounds]
      have := count_set (l := L.toList) (i := i) (by rw [Array.getElem?_toList, Array.getElem?_eq_getElem hltL, h1])
      omega
    · obtain ⟨e, he, hbd, rfl⟩ := of_waits hd
      exact hall e he hbd

/-- Each operation waits for earlier ones alone. -/
def dagB (l : List Oper) : Bool := (List.range l.length).all fun i => match l[i]? with | some o => (waitsOn o).all (· < i) | none => true

theorem dag_of {l : List Oper} (h : dagB l = true) (i : Nat) (o : Oper) (ho : l.toArray[i]? = some o) (d : Nat) (hd : d ∈ waitsOn o) : d < i := by
  rw [List.getElem?_toArray] at ho
  have hi : i < l.length := (List.getElem?_eq_some_iff.1 ho).1
  unfold dagB at h
  rw [List.all_eq_true] at h
  have := h i (List.mem_range.2 hi)
  rw [ho] at this
  simp only [List.all_eq_true, decide_eq_true_eq] at this
  exact this d hd

/-- The frame in which each operation's slot holds what f says. -/
def putAll (f : Nat → Value) : Nat → List Oper → Act → Act
  | _, [], a => a
  | k, o :: l, a => putAll f (k + 1) l (a.put o.dst (f k))

/-- What the slots of the operations hold. -/
def slotsOf (l : List Oper) (a : Act) : Nat → Value := fun i => match l[i]? with | some o => (match o.dst with | some d => a.tmps.getD d undef | none => undef) | none => undef

def setF (f : Nat → Value) (i : Nat) (v : Value) : Nat → Value := fun j => if j = i then v else f j

/-- The operations write different slots. -/
def dstsB : List Oper → Bool
  | [] => true
  | o :: l => (match o.dst with | some d => l.all (fun o' => o'.dst != some d) | none => true) && dstsB l

theorem putAll_put (f : Nat → Value) : ∀ (l : List Oper) (k : Nat) (a : Act) (x : Option Tmp) (v : Value), (∀ d, x = some d → ∀ o ∈ l, o.dst ≠ some d) → (putAll f k l a).put x v = putAll f k l (a.put x v)
  | [], _, _, _, _, _ => rfl
  | o :: l, k, a, x, v, h => by
    unfold putAll
    rw [putAll_put f l (k + 1) (a.put o.dst (f k)) x v (fun d hd o' ho' => h d hd o' (List.mem_cons_of_mem _ ho'))]
    congr 1
    exact (Act.put_comm a v (f k) (fun d hd => h d hd o List.mem_cons_self)).symm

theorem put_put (a : Act) (x : Option Tmp) (v u : Value) : (a.put x v).put x u = a.put x u := by
  cases x with
  | none => rfl
  | some d => simp [Act.put]

theorem putAll_ext {f g : Nat → Value} : ∀ (l : List Oper) (k : Nat) (a : Act), (∀ j, k ≤ j → f j = g j) → putAll f k l a = putAll g k l a
  | [], _, _, _ => rfl
  | o :: l, k, a, h => by
    unfold putAll
    rw [h k (Nat.le_refl _)]
    exact putAll_ext l (k + 1) _ (fun j hj => h j (by omega))

theorem putAll_set (f : Nat → Value) (v : Value) : ∀ (l : List Oper) (k i : Nat) (o : Oper) (a : Act), dstsB l = true → l[i]? = some o → (putAll f k l a).put o.dst v = putAll (setF f (k + i) v) k l a
  | [], _, _, _, _, _, h => by simp at h
  | o' :: l, k, 0, o, a, hd, h => by
    simp at h
    subst h
    unfold putAll
    unfold dstsB at hd
    rw [Bool.and_eq_true] at hd
    rw [putAll_put f l (k + 1) _ o'.dst v (fun d hx o2 ho2 => by
      have h1 := hd.1
      rw [hx] at h1
      have := List.all_eq_true.1 h1 o2 ho2
      simpa using this), put_put]
    have h1 : setF f (k + 0) v k = v := by simp [setF]
    rw [h1]
    exact putAll_ext l (k + 1) _ (fun j hj => by unfold setF; rw [if_neg (by omega)])
  | o' :: l, k, i + 1, o, a, hd, h => by
    unfold putAll
    unfold dstsB at hd
    rw [Bool.and_eq_true] at hd
    have := putAll_set f v l (k + 1) i o (a.put o'.dst (f k)) hd.2 (by simpa using h)
    rw [this]
    have h1 : setF f (k + (i + 1)) v k = f k := by unfold setF; rw [if_neg (by omega)]
    rw [h1, show k + 1 + i = k + (i + 1) from by omega]

theorem put_same (a : Act) (x : Option Tmp) : a.put x (match x with | some d => a.tmps.getD d undef | none => undef) = a := by
  cases x with
  | none => rfl
  | some d =>
    unfold Act.put
    simp only
    congr 1
    apply Array.ext_getElem?
    intro j
    by_cases hj : d = j
    · subst hj
      by_cases hlt : d < a.tmps.size
      · simp [Array.getD, hlt]
      · simp [hlt]
    · rw [Array.getElem?_setIfInBounds_ne hj]

theorem putAll_same : ∀ (l : List Oper) (k : Nat) (a : Act) (f : Nat → Value), (∀ i o, l[i]? = some o → f (k + i) = match o.dst with | some d => a.tmps.getD d undef | none => undef) → putAll f k l a = a
  | [], _, _, _, _ => rfl
  | o :: l, k, a, f, h => by
    unfold putAll
    have h0 := h 0 o rfl
    rw [Nat.add_zero] at h0
    rw [h0, put_same]
    exact putAll_same l (k + 1) a f (fun i o' ho' => by
      have := h (i + 1) o' (by simpa using ho')
      rw [show k + 1 + i = k + (i + 1) from by omega]
      exact this)

theorem putAll_slots (l : List Oper) (a : Act) : putAll (slotsOf l a) 0 l a = a :=
  putAll_same l 0 a _ (fun i o ho => by unfold slotsOf; rw [Nat.zero_add, ho])

/-- One operation of a region over the frames F: the way back is kept shut while it is run. -/
def StepJ (P : Program) (l : List Oper) (Q : Exit → Act → World → Prop) (F : (Nat → Value) → Act) (J : (Nat → Bool) → (Nat → Value) → World → Prop) (i : Nat) (o : Oper) : Prop :=
  ∀ b f w, b i = false → (∀ d ∈ waitsOn o, b d = true) → J b f w → ∀ K : Act → World → Prop, Shut (∀ a' v w', a' = (F f).put o.dst v → J (up b i) (setF f i v) w' → K a' w') →
    if Region.wanted o (yielded l.toArray (F f).tmps) = true then Oper.wp P o (F f) w K Q else K ((F f).put o.dst undef) w

/-- The steps, one after the other. -/
def StepsJ (P : Program) (l : List Oper) (Q : Exit → Act → World → Prop) (F : (Nat → Value) → Act) (J : (Nat → Bool) → (Nat → Value) → World → Prop) : Nat → List Oper → Prop
  | _, [] => True
  | k, o :: r => StepJ P l Q F J k o ∧ StepsJ P l Q F J (k + 1) r

theorem StepsJ.nil {l : List Oper} {F : (Nat → Value) → Act} {J : (Nat → Bool) → (Nat → Value) → World → Prop} {k : Nat} : StepsJ P l Q F J k [] := trivial
theorem StepsJ.cons {l : List Oper} {F : (Nat → Value) → Act} {J : (Nat → Bool) → (Nat → Value) → World → Prop} {k : Nat} {o : Oper} {r : List Oper} (h : StepJ P l Q F J k o) (hs : StepsJ P l Q F J (k + 1) r) : StepsJ P l Q F J k (o :: r) := ⟨h, hs⟩

theorem StepsJ.get {l : List Oper} {F : (Nat → Value) → Act} {J : (Nat → Bool) → (Nat → Value) → World → Prop} : ∀ {r : List Oper} {k i : Nat} {o : Oper}, StepsJ P l Q F J k r → r[i]? = some o → StepJ P l Q F J (k + i) o
  | [], _, _, _, _, h => by simp at h
  | o' :: r, k, 0, o, hs, h => by simp at h; subst h; exact hs.1
  | o' :: r, k, i + 1, o, hs, h => by
    have := StepsJ.get hs.2 (i := i) (o := o) (by simpa using h)
    rw [show k + 1 + i = k + (i + 1) from by omega] at this
    exact this

/-- **A region that draws its order**, over the values of its slots: the condition J holds of the world behind the draw with nothing come up, each operation keeps it, and with all come up it gives what follows. F is the frame as a function of those values. -/
theorem wp_region_inv {id : Nat} {a : Act} {w : World} {l : List Oper} {F : (Nat → Value) → Act} (hm : P.follows .mixedOrders = true) (hd : dagB l = true) (hn : dstsB l = true) (J : (Nat → Bool) → (Nat → Value) → World → Prop)
    (h0 : J (fun _ => false) (slotsOf l a) w.drew) (hF : ∀ f, putAll f 0 l a = F f) (hs : StepsJ P l Q F J 0 l) (hend : ∀ b f w, (∀ i, i < l.length → b i = true) → J b f w → Q .normal (F f) w) :
    (Code.region id l.toArray true).wp P Q a w := by
  refine wp_region_any hm (wpAny_inv (I := fun b a' w' => ∃ f, a' = putAll f 0 l a ∧ J b f w') (fun i hi => ?_) (dag_of hd) ?_ _ _ _ _ (by simp) ?_ ?_)
  · intro o ho b a' w' hb hw hI
    obtain ⟨f, rfl, hJ⟩ := hI
    rw [List.getElem?_toArray] at ho
    have hst := hs.get ho
    rw [Nat.zero_add] at hst
    refine wpOp_step (by rw [List.getElem?_toArray]; exact ho) (fun K hK => ?_)
    rw [hF]
    refine hst b f w' hb hw hJ K (fun a2 v w2 ha2 hJ2 => hK _ _ ⟨setF f i v, ?_, hJ2⟩)
    have := putAll_set f v l 0 i o a hn ho
    rw [Nat.zero_add] at this
    rw [ha2, ← hF, this]
  · rintro b a' w' hall ⟨f, rfl, hJ⟩
    rw [hF]
    exact hend b f w' (by simpa using hall) hJ
  · simp
  · have : bitsOf (Array.replicate l.toArray.size false) = fun _ => false := by
      funext j
      unfold bitsOf
      by_cases hj : j < l.length <;> simp [Array.getD, hj]
    rw [this]
    exact ⟨slotsOf l a, (putAll_slots l a).symm, h0⟩
end
end Go.Proofs.YtcmbbmfdmohedaaGreatDoor
