/-
  The blocks of numbers by limbs that come in.
-/
import Derived.Test.YtmnnnoeenfmckaaGreatDoorBv
namespace Go.Proofs.YtmnnnoeenfmckaaGreatDoor
open Go.RowKit

/-- A struct of a sign and limbs in a block of its own. -/
def Rwb (w : World) (g : Nat) (a b c : Value) : Prop := w.heap[g]? = some (.cells #[a, b, c] 24 (0, 0))
theorem Rwb.kp {w w' : World} {g : Nat} {a b c : Value} (h : Rwb w g a b c) (k : Kp w w') : Rwb w' g a b c := by
  unfold Rwb
  rw [k.block g (Array.getElem?_eq_some_iff.1 h).1]
  exact h
theorem Rwb.new (w : World) (a b c : Value) : Rwb (w.alloc (Obj.cells #[a, b, c] 24)) w.heap.size a b c := heap_alloc_new w _
theorem Rwb.cells {w : World} {g : Nat} {a b c : Value} (h : Rwb w g a b c) : w.cell? ⟨g, 0, none⟩ = some a ∧ w.cell? ⟨g, 1, none⟩ = some b ∧ w.cell? ⟨g, 2, none⟩ = some c :=
  ⟨cell_of_row w g 0 _ _ _ h, cell_of_row w g 1 _ _ _ h, cell_of_row w g 2 _ _ _ h⟩

structure Rw1 (w wc : World) (a0 a1 a2 : Value) : Prop where
  k : Kp w wc
  ra : Rwb wc (w.heap.size) a0 a1 a2

theorem Rw1.kp {w wc w' : World} {a0 a1 a2 : Value} (h : Rw1 w wc a0 a1 a2) (k : Kp wc w') : Rw1 w w' a0 a1 a2 := ⟨h.k.tr k, h.ra.kp k⟩
theorem Rw1.new (w : World) (a0 a1 a2 : Value) : Rw1 w (w.alloc (.cells #[a0, a1, a2] 24)) a0 a1 a2 := by
  have h0 := Rwb.new w a0 a1 a2
  exact ⟨Kp.alloc w _, h0⟩

structure Rw2 (w wc : World) (a0 a1 a2 b0 b1 b2 : Value) : Prop where
  k : Kp w wc
  ra : Rwb wc (w.heap.size) a0 a1 a2
  rb : Rwb wc (w.heap.size + 1) b0 b1 b2

theorem Rw2.kp {w wc w' : World} {a0 a1 a2 b0 b1 b2 : Value} (h : Rw2 w wc a0 a1 a2 b0 b1 b2) (k : Kp wc w') : Rw2 w w' a0 a1 a2 b0 b1 b2 := ⟨h.k.tr k, h.ra.kp k, h.rb.kp k⟩
theorem Rw2.new (w : World) (a0 a1 a2 b0 b1 b2 : Value) : Rw2 w ((w.alloc (.cells #[a0, a1, a2] 24)).alloc (.cells #[b0, b1, b2] 24)) a0 a1 a2 b0 b1 b2 := by
  have h0 := Rwb.new w a0 a1 a2
  have h1 := Rwb.new (w.alloc (.cells #[a0, a1, a2] 24)) b0 b1 b2
  simp only [World.size_alloc] at h1
  exact ⟨(Kp.alloc w _).tr (Kp.alloc _ _), h0.kp (Kp.alloc _ _), h1⟩

structure Rw3 (w wc : World) (a0 a1 a2 b0 b1 b2 c0 c1 c2 : Value) : Prop where
  k : Kp w wc
  ra : Rwb wc (w.heap.size) a0 a1 a2
  rb : Rwb wc (w.heap.size + 1) b0 b1 b2
  rc : Rwb wc (w.heap.size + 1 + 1) c0 c1 c2

theorem Rw3.kp {w wc w' : World} {a0 a1 a2 b0 b1 b2 c0 c1 c2 : Value} (h : Rw3 w wc a0 a1 a2 b0 b1 b2 c0 c1 c2) (k : Kp wc w') : Rw3 w w' a0 a1 a2 b0 b1 b2 c0 c1 c2 := ⟨h.k.tr k, h.ra.kp k, h.rb.kp k, h.rc.kp k⟩
theorem Rw3.new (w : World) (a0 a1 a2 b0 b1 b2 c0 c1 c2 : Value) : Rw3 w (((w.alloc (.cells #[a0, a1, a2] 24)).alloc (.cells #[b0, b1, b2] 24)).alloc (.cells #[c0, c1, c2] 24)) a0 a1 a2 b0 b1 b2 c0 c1 c2 := by
  have h0 := Rwb.new w a0 a1 a2
  have h1 := Rwb.new (w.alloc (.cells #[a0, a1, a2] 24)) b0 b1 b2
  simp only [World.size_alloc] at h1
  have h2 := Rwb.new ((w.alloc (.cells #[a0, a1, a2] 24)).alloc (.cells #[b0, b1, b2] 24)) c0 c1 c2
  simp only [World.size_alloc] at h2
  exact ⟨((Kp.alloc w _).tr (Kp.alloc _ _)).tr (Kp.alloc _ _), (h0.kp (Kp.alloc _ _)).kp (Kp.alloc _ _), h1.kp (Kp.alloc _ _), h2⟩
end Go.Proofs.YtmnnnoeenfmckaaGreatDoor
