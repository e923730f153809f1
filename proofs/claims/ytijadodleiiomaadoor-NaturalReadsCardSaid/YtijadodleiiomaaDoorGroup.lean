/-
  natural.appendGroup, by walking its text.
-/
import Derived.Test.YtijadodleiiomaaDoorCmp
import Derived.Lib.ItoaNum
import Derived.Lib.UnsafeStr
namespace Go.Proofs.YtijadodleiiomaaDoor
open Go.RowKit

/-- The byte of one decimal digit: that of the weight 10^k. -/
def digit (u k : Nat) : UInt8 := UInt8.ofNat (48 + u / 10 ^ k % 10)
/-- Nine decimal digits. -/
def nine (u : Nat) : List UInt8 := (List.range 9).map fun t => digit u (8 - t)

/-- A block of bytes that the call itself has made. -/
def OwnB (w : World) (e : TypeId) (g : Nat) (D : List UInt8) : Prop := w.heap[g]? = some (.cells (Lib.byteCells D).toArray e (0, 0))

theorem OwnB.cell {w : World} {e : TypeId} {g : Nat} {D : List UInt8} (h : OwnB w e g D) (j : Nat) (hj : j < D.length) : ∃ v, w.cell? ⟨g, j, none⟩ = some v ∧ v = .int .u8 (D[j].toNat : Int) := by
  refine ⟨_, ?_, rfl⟩
  rw [cell_of_row w g j _ e (0, 0) h]
  simp [Lib.byteCells, hj]

theorem OwnB.frozen {w : World} {e : TypeId} {g : Nat} {D : List UInt8} (h : OwnB w e g D) (j : Nat) : w.frozen? ⟨g, j, none⟩ = false := frozen_of_row w g j _ e h

theorem OwnB.set {w : World} {e : TypeId} {g : Nat} {D : List UInt8} (h : OwnB w e g D) (j : Nat) (b : UInt8) : OwnB (w.setCell ⟨g, j, none⟩ (.int .u8 (b.toNat : Nat))) e g (D.set j b) := by
  have := heap_setCell_same w g j _ e (.int .u8 (b.toNat : Nat)) h
  unfold OwnB
  rw [this]
  congr 2
  apply Array.ext'
  simp [Lib.byteCells, List.map_set]

theorem OwnB.new (w : World) (e : TypeId) (D : List UInt8) : OwnB (w.alloc (.cells (Lib.byteCells D).toArray e)) e w.heap.size D := heap_alloc_new w _

/-- A store into a block that is not the row's own leaves what is owned. -/
theorem owns_setCell {w : World} {B : Nat} {e : TypeId} {s : Nat} {v : Value} {n : Nat} {xs : List Value} (h : w.ownsRow B e s v n xs) {a : Addr} (ha : v.ownBlock ≠ some a.block) (u : Value) : (w.setCell a u).ownsRow B e s v n xs := by
  refine h.kept (row := some a.block) ⟨rfl, rfl, rfl, by simp [World.setCell], fun k hk hne => Below.heap_setCell _ _ _ _ (fun e => hne (by rw [e]))⟩ (Or.inr ha)

theorem bytes_one (l : List UInt8) : ∀ u ∈ Lib.byteCells l, u.oneCell' = true := by
  intro u hu
  obtain ⟨_, _, rfl⟩ := List.mem_map.1 hu
  rfl

theorem digit_val (u k : Nat) : (digit u k).toNat = 48 + u / 10 ^ k % 10 := by
  unfold digit
  have : u / 10 ^ k % 10 < 10 := Nat.mod_lt _ (by omega)
  simp
  omega

theorem nine_len (u : Nat) : (nine u).length = 9 := by simp [nine]

theorem nine_at (u t : Nat) (h : t < 9) : (nine u)[t]'(by rw [nine_len]; exact h) = digit u (8 - t) := by
  unfold nine
  rw [List.getElem_map, List.getElem_range]

theorem nine_step {D : List UInt8} {u i : Nat} (hl : D.length = 9) (hi : i < 9) (hd : D.drop (9 - i) = (nine u).drop (9 - i)) : (D.set (8 - i) (digit u i)).drop (9 - (i + 1)) = (nine u).drop (9 - (i + 1)) := by
  rw [show 9 - (i + 1) = 8 - i by omega]
  rw [List.drop_eq_getElem_cons (l := D.set (8 - i) (digit u i)) (by rw [List.length_set]; omega), List.drop_eq_getElem_cons (l := nine u) (by rw [nine_len]; omega), List.getElem_set_self, nine_at _ _ (by omega)]
  congr 1
  · rw [show 8 - (8 - i) = i by omega]
  · rw [show 8 - i + 1 = 9 - i by omega, ← hd]
    apply List.ext_getElem?
    intro j
    rw [List.getElem?_drop, List.getElem?_drop, List.getElem?_set_ne (by omega)]

set_option maxRecDepth 100000 in
set_option maxHeartbeats 1000000 in
theorem group_any (B n x : Nat) (sv : Value) (xs : List Value) (w : World) (hown : w.ownsRow B 5 1 sv n xs) (hBw : B ≤ w.heap.size) (hlim : n + 9 ≤ 140737488355328) (hx : x < 4294967296) :
    Calls Tryd.prog 65 #[sv, .int .u32 (x : Nat)] w fun e w' => ∃ v', e = .returned v' ∧ w'.ownsRow B 5 1 v' (n + 9) (xs ++ Lib.byteCells (nine x)) ∧ Below B w w' := by
  obtain ⟨i0, hi, hz0, hz1, hz2⟩ := info_parts infoU8
  have hne : sv.ownBlock ≠ some w.heap.size := fun e => by have := (hown.lt _ e).2; omega
  have HNE := Lib.hid hne
  have HOW := Lib.hid hown
  clear hne hown
  go_enter Tryd.func65, Tryd.ntmps65
  go_wp2
  go_loopw [1, 7] (fun gv i wr => ∃ (k : Nat) (D : List UInt8), k ≤ 9 ∧ i = .int .i64 k ∧ gv = .int .u32 ((x / 10 ^ k : Nat) : Int) ∧ OwnB wr 78 w.heap.size D ∧ D.length = 9 ∧ D.drop (9 - k) = (nine x).drop (9 - k) ∧
    wr.ownsRow B 5 1 sv n xs ∧ Below B w wr ∧ w.heap.size < wr.heap.size) (fun _ i _ => 9 - (intOf i).toNat)
  case atStart => exact ⟨0, List.replicate 9 0, by omega, rfl, by simp, OwnB.new w _ (List.replicate 9 0), rfl, rfl, HOW.out.alloc _, (Below.refl _ _).alloc hBw _, by simp⟩
  case round =>
    obtain ⟨k, D, hk, rfl, rfl, hD, hDl, hDd, hO, hBel, hsz⟩ := hrel
    have HD := Lib.hid hD
    have HDl := Lib.hid hDl
    have HDd := Lib.hid hDd
    have HO := Lib.hid hO
    clear hD hDl hDd hO
    by_cases hk9 : k < 9
    · have hfz := HD.out.frozen (8 - k)
      obtain ⟨v8, hcell, hv8⟩ := HD.out.cell (8 - k) (by rw [HDl.out]; omega)
      have HV8 := Lib.hid hv8
      clear hv8
      have hp : x / 10 ^ k < 4294967296 := Nat.lt_of_le_of_lt (Nat.div_le_self _ _) hx
      have hp10 : x / 10 ^ k / 10 = x / 10 ^ (k + 1) := by rw [Nat.div_div_eq_div_mul, Nat.pow_succ]
      have HP10 := Lib.hid hp10
      have hdv := digit_val x k
      obtain ⟨p, hpe⟩ : ∃ p, p = x / 10 ^ k := ⟨_, rfl⟩
      rw [← hpe] at hp HP10 hdv ⊢
      have HDV := Lib.hid hdv
      clear hpe hp10 hdv
      go_wp2
      have e8 : (48 + (p : Int) % 10) = (((digit x k).toNat : Nat) : Int) := by rw [HDV.out]; omega
      rw [e8]
      go_roundw
      case rel => exact ⟨k + 1, D.set (8 - k) (digit x k), by omega, by go_num, by rw [← HP10.out]; go_num, HD.out.set _ _, by rw [List.length_set]; exact HDl.out, nine_step HDl.out hk9 HDd.out, owns_setCell HO.out HNE.out _, hBel.setCell hBw _, by simp [World.setCell]; omega⟩
      case measure => simp [intOf]; omega
    · obtain rfl : k = 9 := by omega
      have hDn : D = nine x := by simpa using HDd.out
      have hnews : Src wr (some ⟨w.heap.size, 0, none⟩) (Lib.byteCells (nine x)) := by
        refine fun _ => ⟨_, rfl, fun j u hu => ?_⟩
        have hj : j < (nine x).length := by
          have := (List.getElem?_eq_some_iff.1 hu).1
          simpa [Lib.byteCells] using this
        rw [Addr.add_lit, Nat.zero_add, cell_of_row wr w.heap.size j _ _ (0, 0) HD.out, ← hu, hDn]
        simp
      have hlen : (Lib.byteCells (nine x)).length = 9 * 1 := by rw [Lib.byteCells_length, nine_len]
      have HN := Lib.hid hnews
      have HL := Lib.hid hlen
      clear hDn hnews hlen
      go_wp2_with (at_builtin; refine wpList_append_src _ rfl (.tmp 20) (.tmp 21) 66 rfl B 5 i0 (.int .u8 0) 1 1 undU8s hi hz0 hz1 hz2 rfl (by decide) sv n xs rfl HO.out (some ⟨w.heap.size, 0, none⟩) 9 9 (Lib.byteCells (nine x)) rfl HL.out HN.out (bytes_one _) (by unfold maxLen; omega) (by omega) (by have := hBel.size; omega) ?_; intro v' w1 hown' hg _)
      go_wp2
      go_ret
      exact ⟨v', rfl, hown', hBel.grown hg (by have := hBel.size; omega) (fun j hj => (HO.out.lt j hj).1)⟩
end Go.Proofs.YtijadodleiiomaaDoor
