/-
  slices.Grow of nothing, slices.Concat of two rows of limbs.
-/
import Derived.Shelf.Spec.SlicesGrow
import Derived.Test.YtijadodleiiomaaDoorTz
namespace Go.Proofs.YtijadodleiiomaaDoor
open Go.RowKit Go.Shelf

def growRen : Go.Shelf.Ren := ⟨fun | 4 => 69 | n => n, fun | 20 => 20 | 22 => 22 | 25 => 45 | 0 => 0 | 3 => 3 | 4 => 4 | 9 => 9 | n => n, fun | n => n⟩

theorem growLaid : Lays8.n4 Tryd.prog growRen := {
  mixed := by kernel_rfl
  f4 := ⟨"slices.Grow[[]uint32,uint32]", by decide, Tryd.func69.trans (congrArg some (by kernel_rfl))⟩
  t0 := Tryd.underlying0
  a0 := Tryd.isAgg0
  z0 := Tryd.sizeOf0
  v0 := Tryd.zeroValue0
  t3 := Tryd.underlying3
  a3 := Tryd.isAgg3
  z3 := Tryd.sizeOf3
  v3 := Tryd.zeroValue3
  t4 := Tryd.underlying4
  a4 := Tryd.isAgg4
  z4 := Tryd.sizeOf4
  v4 := Tryd.zeroValue4
  t9 := Tryd.underlying9
  a9 := Tryd.isAgg9
  z9 := Tryd.sizeOf9
  v9 := Tryd.zeroValue9
  t20 := Tryd.underlying20
  a20 := Tryd.isAgg20
  z20 := Tryd.sizeOf20
  v20 := Tryd.zeroValue20
  t22 := Tryd.underlying22
  a22 := Tryd.isAgg22
  z22 := Tryd.sizeOf22
  v22 := Tryd.zeroValue22 }

theorem zero_cells (n : Nat) : (Builtin.zeroCells (Value.int .u32 0).cells n).toList = cellsOf (List.replicate n 0) := by
  apply List.ext_getElem?
  intro i
  rw [show (Value.int .u32 0).cells = #[Value.int .u32 0] from rfl]
  simp only [Builtin.zeroCells, Array.toList_map, List.getElem?_map, cellsOf, Array.toList_range, List.getElem?_replicate, limb]
  by_cases h : i < n
  · simp [h, Nat.mod_one]
    rfl
  · simp [h]

theorem grow_any (n : Nat) (h0 : 0 < n) (hn : n ≤ 1099511627776) (w : World) :
    Calls Tryd.prog 69 #[.slice none 0 0, .int .i64 (n : Nat)] w fun e w' => ∃ g c, e = .returned (.slice (some ⟨g, 0, none⟩) 0 c) ∧ n ≤ c ∧ c ≤ maxLen ∧ w.heap.size ≤ g ∧ Own w' 45 g (List.replicate c 0) ∧ Kp w w' := by
  obtain ⟨i0, hi, hz0, hz1, hz2⟩ := info_parts infoU32
  refine (Any8.slices_Grow_grow growLaid i0 (.int .u32 0) hi hz0 (by rw [hz1]; omega) none 0 0 n [] w (Nat.le_refl _) (by omega) (by rw [hz2]; omega) (by omega) (by simp) (fun _ => rfl) (fun a h => by cases h)).mono ?_
  rintro e w1 ⟨rfl, rfl⟩
  have hge := grownCap_ge w (0 + n) 0 45
  have hle := grownCap_le_maxLen w (0 + n) 0 45 (by unfold maxLen; omega)
  refine ⟨w.heap.size, grownCap w (0 + n) 0 45, rfl, by omega, hle, Nat.le_refl _, ?_, (show Kp w w.drew from (Below.refl _ _).drew).tr (Kp.alloc _ _)⟩
  show Own (w.drew.alloc (.cells ((([] : List Value).toArray) ++ Builtin.zeroCells (Value.int .u32 0).cells (0 + n - 0) ++ Builtin.zeroCells (Value.int .u32 0).cells (grownCap w (0 + n) 0 45 - (0 + n))) 45)) 45 w.heap.size _
  obtain ⟨c, hc⟩ : ∃ c, c = grownCap w (0 + n) 0 45 := ⟨_, rfl⟩
  rw [← hc] at hge ⊢
  clear hc hle
  have e : (([] : List Value).toArray) ++ Builtin.zeroCells (Value.int .u32 0).cells (0 + n - 0) ++ Builtin.zeroCells (Value.int .u32 0).cells (c - (0 + n)) = (cellsOf (List.replicate c 0)).toArray := by
    apply Array.ext'
    rw [Array.toList_append, Array.toList_append, zero_cells, zero_cells]
    simp only [cellsOf, List.nil_append, List.map_replicate, List.replicate_append_replicate]
    rw [show 0 + n - 0 + (c - (0 + n)) = c by omega]
  rw [e]
  exact Own.alloc_new w.drew 45 (List.replicate c 0)

/-- ts laid into xs from k on. -/
def lay (xs : List Nat) (k : Nat) : List Nat → List Nat
  | [] => xs
  | t :: ts => lay (xs.set k t) (k + 1) ts

theorem lay_length (xs : List Nat) (k : Nat) (ts : List Nat) : (lay xs k ts).length = xs.length := by
  induction ts generalizing xs k with
  | nil => rfl
  | cons t ts ih => rw [lay, ih, List.length_set]

theorem lay_limbs {xs ts : List Nat} (k : Nat) (h : Limbs xs) (ht : Limbs ts) : Limbs (lay xs k ts) := by
  induction ts generalizing xs k with
  | nil => exact h
  | cons t ts ih => exact ih _ (h.set _ _ ht.head) ht.tail

theorem lay_take (xs : List Nat) (k : Nat) (ts : List Nat) (h : k + ts.length ≤ xs.length) : (lay xs k ts).take (k + ts.length) = xs.take k ++ ts := by
  induction ts generalizing xs k with
  | nil => simp [lay]
  | cons t ts ih =>
    rw [List.length_cons] at h ⊢
    rw [lay, show k + (ts.length + 1) = k + 1 + ts.length by omega, ih _ _ (by rw [List.length_set]; omega), take_snoc _ _ (by rw [List.length_set]; omega), List.take_set_of_le (Nat.le_refl _)]
    simp [List.getD, show k < xs.length by omega]

theorem Own.setCells {w : World} {e : TypeId} {g : Nat} {xs : List Nat} (h : Own w e g xs) (k : Nat) (ts : List Nat) : Own (w.setCells g k (cellsOf ts)) e g (lay xs k ts) ∧ Only g w (w.setCells g k (cellsOf ts)) := by
  induction ts generalizing w xs k with
  | nil => exact ⟨h, Only.refl _ _⟩
  | cons t ts ih =>
    obtain ⟨h1, h2⟩ := ih (h.set k t) (k + 1)
    exact ⟨h1, ((Only.refl g w).setCell k _).trans h2⟩

/-- An append whose run is known. -/
theorem wpList_append_eq {P : Program} {w : World} {ops : Array Oper} {rest : List Oper} {o : Oper} {a : Act} {Q : Exit → Act → World → Prop} (hgd : o.guard = none) (s x : Operand) (t : TypeId)
    (ho : o.op = .call { callee := .builtin .append, args := #[s, x], argTypes := #[t, t] }) (v u v' : Value) (w' : World) (hs : a.eval s = v) (hx : a.eval x = u)
    (hr : (Builtin.append_ #[t, t] o.type #[v, u]).run P w = .ok v' w') (h : wpList P ops Q rest (a.put o.dst v') w') : wpList P ops Q (o :: rest) a w := by
  refine wpList_plain hgd fun K hK => ?_
  unfold Oper.wp execOp
  simp only [ho, resolve, invoke, builtin, Sem.run_bind, Sem.run_pure, Result.andThen_ok, List.map_toArray, List.map_cons, List.map_nil, hs, hx, hr]
  exact hK _ _ h

/-- An append of limbs to a row of the call's own that has room. -/
theorem append_own (ty : TypeId) {w : World} {g : Nat} {P : List Nat} (h : Own w 45 g P) {k cap b o m c : Nat} {B : List Nat} (hm : B.length = m) (hs : Sl w (some ⟨b, o, none⟩) B) (hr : k + m ≤ cap) (hP : k + m ≤ P.length) :
    (Builtin.append_ #[22, 22] ty #[.slice (some ⟨g, 0, none⟩) k cap, .slice (some ⟨b, o, none⟩) m c]).run Tryd.prog w = .ok (.slice (some ⟨g, 0, none⟩) (k + m) cap) (w.setCells g k (cellsOf B)) := by
  obtain ⟨i0, hi, hz0, hz1, hz2⟩ := info_parts infoU32
  have hl : (cellsOf B).length = m * i0.size := by rw [cellsOf_len, hm, hz1, Nat.mul_one]
  have := run_append_room_cells (P := Tryd.prog) w 22 ty 45 i0 undU32s hi g 0 k cap ⟨b, o, none⟩ m c (cellsOf B) hl (by
      intro j u hj
      obtain ⟨a', ha', hc'⟩ := hs.news (by rcases Nat.eq_zero_or_pos (cellsOf B).length with e | e; (rw [List.length_eq_zero_iff.1 e] at hj; simp at hj); exact e)
      obtain rfl := Option.some.inj ha'
      exact hc' j u hj) (cellsOf_one _) hr
    (by
      intro j hj
      rw [hz1, Nat.mul_one, Nat.zero_add, h.cell (k + j) (by rw [hl, hz1, Nat.mul_one] at hj; omega)]
      rfl)
    (by
      intro j hj
      rw [hz1, Nat.mul_one, Nat.zero_add]
      exact h.frozen (k + j))
  rw [hz1, Nat.mul_one, Nat.zero_add] at this
  exact this

def catLen (k a b : Nat) : Nat := match k with
  | 0 => 0
  | 1 => a
  | _ => a + b

def catL (k : Nat) (A B : List Nat) : List Nat := match k with
  | 0 => []
  | 1 => A
  | _ => A ++ B

set_option maxRecDepth 20000 in
set_option maxHeartbeats 1000000 in
theorem concat_any (gs ba oa ca bb ob cb : Nat) (A B : List Nat) (w : World) (h0 : w.cell? ⟨gs, 0, none⟩ = some (.slice (some ⟨ba, oa, none⟩) A.length ca)) (h1 : w.cell? ⟨gs, 1, none⟩ = some (.slice (some ⟨bb, ob, none⟩) B.length cb))
    (hA : Sl w (some ⟨ba, oa, none⟩) A) (hB : Sl w (some ⟨bb, ob, none⟩) B) (ha : Limbs A) (hb : Limbs B) (hA0 : 0 < A.length) (hl : A.length + B.length ≤ 1099511627776) :
    Calls Tryd.prog 49 #[.slice (some ⟨gs, 0, none⟩) 2 2] w fun e w' => ∃ g c P, e = .returned (.slice (some ⟨g, 0, none⟩) (A.length + B.length) c) ∧ w.heap.size ≤ g ∧ Own w' 45 g P ∧ Limbs P ∧ P.length = c ∧ A.length + B.length ≤ c ∧ c ≤ maxLen ∧
      P.take (A.length + B.length) = A ++ B ∧ Kp w w' := by
  obtain ⟨la, hla⟩ : ∃ la, la = A.length := ⟨_, rfl⟩
  obtain ⟨lb, hlb⟩ : ∃ lb, lb = B.length := ⟨_, rfl⟩
  rw [← hla] at h0 hA0
  rw [← hlb] at h1
  rw [← hla, ← hlb] at hl ⊢
  have HA := Lib.hid hA
  have HB := Lib.hid hB
  have HLA := Lib.hid ha
  have HLB := Lib.hid hb
  have Hla := Lib.hid hla
  have Hlb := Lib.hid hlb
  have HG := Lib.hid (grow_any (la + lb) (by omega) hl w)
  have hb0 := World.block_lt_of_cell? w _ h0
  clear hA hB ha hb hla hlb
  go_enter Tryd.func49, Tryd.ntmps49
  go_wp2
  go_loop [3, 11] (fun sv i => ∃ k : Nat, k ≤ 2 ∧ i = .int .i64 k ∧ sv = .int .i64 (catLen k la lb : Nat)) (fun _ i => 2 - (intOf i).toNat)
  case atStart => exact ⟨0, by omega, rfl, rfl⟩
  case round =>
    obtain ⟨k, hk, rfl, rfl⟩ := hrel
    rcases k with _ | _ | _ | k
    · have hc : catLen 0 la lb = 0 := rfl
      rw [hc]
      go_wp2
      go_round
      case rel => exact ⟨1, by omega, by go_num, by go_num⟩
      case measure => simp [intOf]
    · have hc : catLen (0 + 1) la lb = la := rfl
      rw [hc]
      go_wp2
      go_round
      case rel => exact ⟨2, by omega, by go_num, by go_num⟩
      case measure => simp [intOf]
    · have hc : catLen (0 + 1 + 1) la lb = la + lb := rfl
      rw [hc]
      go_wp2_with (go_at_call 69; refine HG.out.mono ?_; rintro e w1 ⟨g, c, rfl, hc1, hc2, hg, hO, K1⟩; refine Hid.out ?_)
      refine Lib.hid ?_
      have HO := Lib.hid hO
      have hgw : g ≠ gs := by omega
      clear hO
      go_wp2_with fail
      go_loopw [6, 27] (fun v i wr => ∃ (k : Nat) (P : List Nat), k ≤ 2 ∧ i = .int .i64 k ∧ v = .slice (some ⟨g, 0, none⟩) (catLen k la lb) c ∧ Own wr 45 g P ∧ Limbs P ∧ P.length = c ∧ P.take (catLen k la lb) = catL k A B ∧ Kp w wr) (fun _ i _ => 2 - (intOf i).toNat)
      case atStart => exact ⟨0, List.replicate c 0, by omega, rfl, rfl, HO.out, Limbs.replicate _, by simp, rfl, K1⟩
      case round =>
        obtain ⟨k, P, hk, rfl, rfl, hP, hPL, hPl, hPt, K2⟩ := hrel
        have HP := Lib.hid hP
        have HPL := Lib.hid hPL
        have HPl := Lib.hid hPl
        have HPt := Lib.hid hPt
        clear hP hPL hPl hPt
        have h0' := (K2.cell (p := ⟨gs, 0, none⟩) hb0).trans h0
        have h1' := (K2.cell (p := ⟨gs, 1, none⟩) hb0).trans h1
        rcases k with _ | _ | _ | k
        · have hc : catLen 0 la lb = 0 := rfl
          rw [hc]
          have HE := Lib.hid (append_own 22 HP.out (k := 0) (cap := c) (c := ca) Hla.out.symm (HA.out.kp K2) (by omega) (by rw [HPl.out]; omega))
          have HSC := Lib.hid (HP.out.setCells 0 A)
          have HLT := Lib.hid (lay_take P 0 A (by rw [HPl.out, ← Hla.out]; omega))
          go_wp2_with (at_builtin; refine wpList_append_eq rfl _ _ _ (by rfl) _ _ _ _ (by rfl) (by rfl) HE.out ?_)
          go_roundw
          case rel => exact ⟨1, lay P 0 A, by omega, by go_num, rfl, HSC.out.1, lay_limbs 0 HPL.out HLA.out, by rw [lay_length]; exact HPl.out, by have h := HLT.out; rw [Nat.zero_add, ← Hla.out, List.take_zero, List.nil_append] at h; exact h, HSC.out.2.kp K2 hg⟩
          case measure => simp [intOf]
        · have hc : catLen (0 + 1) la lb = la := rfl
          rw [hc]
          have HE := Lib.hid (append_own 22 HP.out (k := la) (cap := c) (c := cb) Hlb.out.symm (HB.out.kp K2) (by omega) (by rw [HPl.out]; omega))
          have HSC := Lib.hid (HP.out.setCells la B)
          have HLT := Lib.hid (lay_take P la B (by rw [HPl.out, ← Hlb.out]; omega))
          go_wp2_with (at_builtin; refine wpList_append_eq rfl _ _ _ (by rfl) _ _ _ _ (by rfl) (by rfl) HE.out ?_)
          go_roundw
          case rel => exact ⟨2, lay P la B, by omega, by go_num, rfl, HSC.out.1, lay_limbs la HPL.out HLB.out, by rw [lay_length]; exact HPl.out, by have h := HLT.out; have h2 := HPt.out; rw [hc] at h2; rw [← Hlb.out, h2] at h; exact h, HSC.out.2.kp K2 hg⟩
          case measure => simp [intOf]
        · have hc : catLen (0 + 1 + 1) la lb = la + lb := rfl
          rw [hc]
          go_wp2
          go_ret
          exact ⟨g, c, P, rfl, hg, HP.out, HPL.out, HPl.out, hc1, hc2, HPt.out, K2⟩
        · omega
    · omega
end Go.Proofs.YtijadodleiiomaaDoor
