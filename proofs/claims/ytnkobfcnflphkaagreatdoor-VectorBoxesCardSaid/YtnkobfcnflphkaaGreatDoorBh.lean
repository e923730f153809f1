/-
  Several texts in one: RTextM, RText.
-/
import Derived.Test.YtnkobfcnflphkaaGreatDoorBg
namespace Go.Proofs.YtnkobfcnflphkaaGreatDoor
open Go.RowKit
open Go.Lib (decDigits)
theorem OwnB.of_make {w:World} {base:Nat} {e:TypeId} {g n:Nat} (h:w.ownsRow base e 1 (.slice (some ⟨g,0,none⟩) n n) n (madeCells #[.int .u8 0] (n*1)).toList):OwnB w e g (List.replicate n 0):=by
 rcases h.2 with ⟨h',_⟩ | ⟨g',cap',cur,h',hb,hg,hnc,hcm,hcs,htake⟩
 ·simp at h'
 ·simp only [Value.slice.injEq,Option.some.injEq,Addr.mk.injEq,and_true,true_and] at h'
  obtain ⟨rfl,rfl⟩:=h'
  unfold OwnB
  rw [hg]
  congr 2
  apply Array.ext'
  rw [List.take_of_length_le (by simp [hcs]),Nat.mul_one,toList_madeCells_one] at htake
  rw [htake]
  simp [Lib.byteCells]
end Go.Proofs.YtnkobfcnflphkaaGreatDoor
namespace Go.Proofs.YtnkobfcnflphkaaGreatDoor
open Go.RowKit
open Go.Lib (decDigits)
end Go.Proofs.YtnkobfcnflphkaaGreatDoor
