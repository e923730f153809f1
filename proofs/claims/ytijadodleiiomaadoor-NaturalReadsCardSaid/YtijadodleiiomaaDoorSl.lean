/-
  Slices of limbs as lists of natural numbers, whatever the program: what a slice value reads as in a world, and that it stays so where a call makes new memory.
-/
import Derived.WalkKit
import Derived.BigQuiet
import Derived.Deep.QuietTactic
import Derived.Lib.Hide
import Derived.Test.YtijadodleiiomaaDoorMath
namespace Go.Proofs.YtijadodleiiomaaDoor
open Go.RowKit

/-- A number as a limb. -/
def limb (x : Nat) : Value := .int .u32 (x : Int)

/-- The slice address 'ao' leads to cells that hold the numbers xs. -/
def Sl (w : World) (ao : Option Addr) (xs : List Nat) : Prop :=
  xs ≠ [] → ∃ b off, ao = some ⟨b, off, none⟩ ∧ ∀ i, i < xs.length → w.cell? ⟨b, off + i, none⟩ = some (.int .u32 (xs.getD i 0 : Nat))

/-- The value v reads, in the world w, as the list xs of limbs. -/
def Rd (w : World) (v : Value) (xs : List Nat) : Prop :=
  ∃ ao cap, v = .slice ao xs.length cap ∧ xs.length ≤ cap ∧ cap ≤ maxLen ∧ Limbs xs ∧ Sl w ao xs

/-- Nothing that was there has turned. -/
abbrev Kp (w w' : World) : Prop := Below w.heap.size w w'

theorem Kp.tr {a b c : World} (h : Kp a b) (k : Kp b c) : Kp a c := h.trans (k.mono h.size)

theorem Sl.cell {w : World} {ao : Option Addr} {xs : List Nat} (h : Sl w ao xs) (hne : 0 < xs.length) :
    ∃ b off, ao = some ⟨b, off, none⟩ ∧ ∀ i, i < xs.length → w.cell? ⟨b, off + i, none⟩ = some (.int .u32 (xs.getD i 0 : Nat)) :=
  h (by intro e; simp [e] at hne)

theorem Sl.kp {w w' : World} {ao : Option Addr} {xs : List Nat} (h : Sl w ao xs) (hb : Kp w w') : Sl w' ao xs := by
  intro hne
  obtain ⟨b, off, rfl, hc⟩ := h hne
  refine ⟨b, off, rfl, fun i hi => ?_⟩
  have h1 := hc i hi
  have hlt := World.block_lt_of_cell? w _ h1
  rw [hb.cell (p := ⟨b, off + i, none⟩) hlt]
  exact h1

theorem Rd.kp {w w' : World} {v : Value} {xs : List Nat} (h : Rd w v xs) (hb : Kp w w') : Rd w' v xs := by
  obtain ⟨ao, cap, rfl, h1, h2, h3, h4⟩ := h
  exact ⟨ao, cap, rfl, h1, h2, h3, h4.kp hb⟩

theorem Sl.take {w : World} {ao : Option Addr} {xs : List Nat} (h : Sl w ao xs) (k : Nat) : Sl w ao (xs.take k) := by
  intro hne
  obtain ⟨b, off, rfl, hc⟩ := h (by intro e; simp [e] at hne)
  refine ⟨b, off, rfl, fun i hi => ?_⟩
  have : i < xs.length ∧ i < k := by simp at hi; omega
  rw [hc i this.1]
  simp [List.getD, this.2]

/-! ### append onto what the call owns, from whatever slice -/

/-- Where there is a cell to read, the address leads to the cells cs. -/
def Src (w : World) (ao : Option Addr) (cs : List Value) : Prop := 0 < cs.length → ∃ a, ao = some a ∧ ∀ j u, cs[j]? = some u → w.cell? (a.add j) = some u

section
variable {P : Program} (w : World)

theorem run_append_src (base : Nat) (t ty e : TypeId) (i : TypeInfo) (z : Value) (size bytes : Nat) (ht : P.underlying t = some (.slice e)) (hi : P.info? e = some i) (hz : i.zero = some z)
    (hsize : i.size = size) (hby : i.bytes = bytes) (hzs : z.cells.size = size) (hsz : 0 < size)
    (v : Value) (n : Nat) (xs : List Value) (hown : w.ownsRow base e size v n xs)
    (ao : Option Addr) (m c : Nat) (news : List Value) (hl : news.length = m * size)
    (hnews : Src w ao news) (h1 : ∀ u ∈ news, u.oneCell' = true)
    (h63 : n + m ≤ maxLen) (hbytes : (n + m) * bytes ≤ 140737488355328) (hbase : base ≤ w.heap.size) :
    ∃ v' w', (Builtin.append_ #[t, t] ty #[v, .slice ao m c]).run P w = .ok v' w' ∧ w'.ownsRow base e size v' (n + m) (xs ++ news) ∧ w.grownBy w' v.ownBlock ∧
      (v' = .slice none 0 0 ↔ v = .slice none 0 0 ∧ m = 0) := by
  by_cases hm : m = 0
  · subst hm
    have hn : news = [] := List.eq_nil_of_length_eq_zero (by simpa using hl)
    subst hn
    cases ao with
    | some a => exact run_append_own w base t ty e i z size bytes ht hi hz hsize hby hzs hsz v n xs hown a 0 c [] hl (by simp) h1 h63 hbytes hbase
    | none =>
      refine ⟨v, w, ?_, by simpa using hown, ⟨rfl, rfl, rfl, Nat.le_refl _, fun _ _ _ => rfl⟩, by simp⟩
      rcases hown.2 with ⟨rfl, rfl⟩ | ⟨g, cap, cur, rfl, _, _, hnc, _⟩
      · simp [Builtin.append_, run_underlying ht, sizeOf, typeInfo, hi, Builtin.lenOf, Builtin.firstCells]
      · simp [Builtin.append_, run_underlying ht, sizeOf, typeInfo, hi, Builtin.lenOf, Builtin.firstCells, hnc, storeCells]
  · obtain ⟨a, rfl, hc⟩ := hnews (by rw [hl]; exact Nat.mul_pos (by omega) hsz)
    exact run_append_own w base t ty e i z size bytes ht hi hz hsize hby hzs hsz v n xs hown a m c news hl hc h1 h63 hbytes hbase

theorem wpList_append_src {ops : Array Oper} {rest : List Oper} {o : Oper} {a : Act} {Q : Exit → Act → World → Prop} (hgd : o.guard = none) (s x : Operand) (t : TypeId)
    (ho : o.op = .call { callee := .builtin .append, args := #[s, x], argTypes := #[t, t] })
    (base : Nat) (e : TypeId) (i : TypeInfo) (z : Value) (size bytes : Nat) (ht : P.underlying t = some (.slice e)) (hi : P.info? e = some i) (hz : i.zero = some z)
    (hsize : i.size = size) (hby : i.bytes = bytes) (hzs : z.cells.size = size) (hsz : 0 < size)
    (v : Value) (n : Nat) (xs : List Value) (hs : a.eval s = v) (hown : w.ownsRow base e size v n xs)
    (ao : Option Addr) (m c : Nat) (news : List Value) (hx : a.eval x = .slice ao m c) (hl : news.length = m * size)
    (hnews : Src w ao news) (h1 : ∀ u ∈ news, u.oneCell' = true)
    (h63 : n + m ≤ maxLen) (hbytes : (n + m) * bytes ≤ 140737488355328) (hbase : base ≤ w.heap.size)
    (h : ∀ v' w', w'.ownsRow base e size v' (n + m) (xs ++ news) → w.grownBy w' v.ownBlock → (v' = .slice none 0 0 ↔ v = .slice none 0 0 ∧ m = 0) → wpList P ops Q rest (a.put o.dst v') w') : wpList P ops Q (o :: rest) a w := by
  refine wpList_plain hgd fun K hK => ?_
  obtain ⟨v', w', hr, h2, h3, h4⟩ := run_append_src (P := P) w base t o.type e i z size bytes ht hi hz hsize hby hzs hsz v n xs hown ao m c news hl hnews h1 h63 hbytes hbase
  unfold Oper.wp execOp
  simp only [ho, resolve, invoke, builtin, Sem.run_bind, Sem.run_pure, Result.andThen_ok, List.map_toArray, List.map_cons, List.map_nil, hs, hx, hr]
  exact hK _ _ (h v' w' h2 h3 h4)
end

/-- The limbs xs as cells. -/
def cellsOf (xs : List Nat) : List Value := xs.map limb

theorem cellsOf_len (xs : List Nat) : (cellsOf xs).length = xs.length := by simp [cellsOf]
theorem cellsOf_get (xs : List Nat) (i : Nat) (h : i < xs.length) : (cellsOf xs)[i]? = some (limb (xs.getD i 0)) := by
  simp [cellsOf, List.getD, h]
theorem cellsOf_one (xs : List Nat) : ∀ u ∈ cellsOf xs, u.oneCell' = true := by
  intro u hu
  obtain ⟨_, _, rfl⟩ := List.mem_map.1 hu
  rfl

theorem Sl.news {w : World} {ao : Option Addr} {xs : List Nat} (h : Sl w ao xs) : Src w ao (cellsOf xs) := by
  intro hp
  obtain ⟨b, off, rfl, hc⟩ := h.cell (by simpa [cellsOf] using hp)
  refine ⟨_, rfl, fun j u hu => ?_⟩
  have hj : j < xs.length := by
    have := (List.getElem?_eq_some_iff.1 hu).1
    simpa [cellsOf] using this
  rw [Addr.add_lit, hc j hj]
  rw [cellsOf_get xs j hj] at hu
  exact hu

theorem Rd.owned {w : World} {base : Nat} {e : TypeId} {v : Value} {n : Nat} {xs : List Nat} (h : w.ownsRow base e 1 v n (cellsOf xs)) (hx : Limbs xs) : Rd w v xs := by
  have hn : xs.length = n := by have := h.1; simp [cellsOf] at this; exact this
  subst hn
  rcases h.2 with ⟨rfl, h0⟩ | ⟨g, cap, cur, rfl, _, hg, hnc, hcm, hcs, htake⟩
  · have : xs = [] := List.eq_nil_of_length_eq_zero h0
    subst this
    exact ⟨none, 0, rfl, Nat.le_refl _, Nat.zero_le _, hx, fun h => absurd rfl h⟩
  · refine ⟨_, cap, rfl, hnc, hcm, hx, fun _ => ⟨g, 0, rfl, fun i hi => ?_⟩⟩
    have := h.cellAt i (by omega)
    rw [Nat.zero_add, this, cellsOf_get xs i hi]
    rfl

/-! ### A row of limbs that the call itself has made: block g holds just the cells of xs -/

def Own (w : World) (e : TypeId) (g : Nat) (xs : List Nat) : Prop := w.heap[g]? = some (.cells (cellsOf xs).toArray e (0, 0))

theorem Own.cell {w : World} {e : TypeId} {g : Nat} {xs : List Nat} (h : Own w e g xs) (j : Nat) (hj : j < xs.length) : w.cell? ⟨g, j, none⟩ = some (.int .u32 (xs.getD j 0 : Nat)) := by
  rw [cell_of_row w g j _ e (0, 0) h]
  simpa [limb] using cellsOf_get xs j hj

theorem Own.frozen {w : World} {e : TypeId} {g : Nat} {xs : List Nat} (h : Own w e g xs) (j : Nat) : w.frozen? ⟨g, j, none⟩ = false := frozen_of_row w g j _ e h

theorem Own.set {w : World} {e : TypeId} {g : Nat} {xs : List Nat} (h : Own w e g xs) (j v : Nat) : Own (w.setCell ⟨g, j, none⟩ (.int .u32 (v : Nat))) e g (xs.set j v) := by
  have := heap_setCell_same w g j _ e (.int .u32 (v : Nat)) h
  unfold Own
  rw [this]
  congr 2
  apply Array.ext'
  simp [cellsOf, List.map_set, limb]

theorem Own.kp {w w' : World} {e : TypeId} {g : Nat} {xs : List Nat} (h : Own w e g xs) (hb : Kp w w') : Own w' e g xs := by
  unfold Own
  rw [hb.block g (Array.getElem?_eq_some_iff.1 h).1]
  exact h

theorem Own.lt {w : World} {e : TypeId} {g : Nat} {xs : List Nat} (h : Own w e g xs) : g < w.heap.size := (Array.getElem?_eq_some_iff.1 h).1

theorem Own.of_make {w : World} {base : Nat} {e : TypeId} {g n : Nat} (h : w.ownsRow base e 1 (.slice (some ⟨g, 0, none⟩) n n) n (madeCells #[.int .u32 0] (n * 1)).toList) : Own w e g (List.replicate n 0) := by
  rcases h.2 with ⟨h', _⟩ | ⟨g', cap', cur, h', hb, hg, hnc, hcm, hcs, htake⟩
  · simp at h'
  · simp only [Value.slice.injEq, Option.some.injEq, Addr.mk.injEq, and_true, true_and] at h'
    obtain ⟨rfl, rfl⟩ := h'
    unfold Own
    rw [hg]
    congr 2
    apply Array.ext'
    rw [List.take_of_length_le (by simp [hcs]), Nat.mul_one, toList_madeCells_one] at htake
    rw [htake]
    simp [cellsOf, limb]

theorem Own.rd {w : World} {e : TypeId} {g : Nat} {xs : List Nat} (h : Own w e g xs) (hx : Limbs xs) (k : Nat) (hk : k ≤ xs.length) (cap : Nat) (hc : k ≤ cap) (hm : cap ≤ maxLen) : Rd w (.slice (some ⟨g, 0, none⟩) k cap) (xs.take k) := by
  have e1 : (xs.take k).length = k := by simp; omega
  refine ⟨some ⟨g, 0, none⟩, cap, by rw [e1], by omega, hm, hx.take k, Sl.take (fun _ => ⟨g, 0, rfl, fun i hi => ?_⟩) k⟩
  rw [Nat.zero_add]
  exact h.cell i hi

theorem Own.sl {w : World} {e : TypeId} {g : Nat} {xs : List Nat} (h : Own w e g xs) : Sl w (some ⟨g, 0, none⟩) xs := fun _ => ⟨g, 0, rfl, fun i hi => by rw [Nat.zero_add]; exact h.cell i hi⟩

/-- An owned row, trimmed, as a magnitude. -/
theorem Own.mag {w : World} {e : TypeId} {g : Nat} {xs : List Nat} (h : Own w e g xs) (hx : Limbs xs) (n cap : Nat) (hn : val xs = n) (hc : xs.length ≤ cap) (hm : cap ≤ maxLen) :
    Rd w (.slice (some ⟨g, 0, none⟩) (trimL xs).length cap) (toL n) := by
  subst hn
  rw [toL_val hx]
  refine ⟨_, cap, rfl, Nat.le_trans (length_trimL xs) hc, hm, limbs_trimL hx, ?_⟩
  rw [← trimL_take xs]
  exact h.sl.take _

theorem Kp.setCell {w0 w : World} (h : Kp w0 w) {a : Addr} (ha : w0.heap.size ≤ a.block) (v : Value) : Kp w0 (w.setCell a v) := Below.setCell h ha v

/-- One limb of a slice: its place and its number, the number under a name of its own. -/
theorem Sl.at {w : World} {ao : Option Addr} {xs : List Nat} (h : Sl w ao xs) (hx : Limbs xs) (k : Nat) (hk : k < xs.length) :
    ∃ b off x, ao = some ⟨b, off, none⟩ ∧ w.cell? ⟨b, off + k, none⟩ = some (.int .u32 (x : Nat)) ∧ x < 4294967296 ∧ Hid (x = xs.getD k 0) := by
  obtain ⟨b, off, rfl, hc⟩ := h.cell (by omega)
  exact ⟨b, off, _, rfl, hc k hk, hx.getD k, rfl⟩

theorem Own.at {w : World} {e : TypeId} {g : Nat} {xs : List Nat} (h : Own w e g xs) (hx : Limbs xs) (k : Nat) (hk : k < xs.length) :
    ∃ x, w.cell? ⟨g, k, none⟩ = some (.int .u32 (x : Nat)) ∧ x < 4294967296 ∧ Hid (x = xs.getD k 0) :=
  ⟨_, h.cell k hk, hx.getD k, rfl⟩

theorem mulw {c x y o : Nat} (hc : c < 4294967296) (hx : x < 4294967296) (hy : y < 4294967296) (ho : o < 4294967296) :
    IntKind.u64.wrap ((c : Int) + IntKind.u64.wrap (IntKind.u64.wrap ((x : Int) * (y : Int)) + (o : Int))) = ((c + (x * y + o) : Nat) : Int) ∧ c + (x * y + o) ≤ 18446744073709551615 := by
  have h : x * y ≤ 4294967295 * 4294967295 := Nat.mul_le_mul (by omega) (by omega)
  rw [← Int.natCast_mul]
  generalize x * y = p at *
  refine ⟨?_, by omega⟩
  rw [IntWalk.u64_in (p : Int) (by omega), IntWalk.u64_in ((p : Int) + o) (by omega), IntWalk.u64_in _ (by omega)]
  omega

end Go.Proofs.YtijadodleiiomaaDoor
