/-
  Several texts in one: Zm.
-/
import Derived.Test.YtfineedhebhpaaaGreatDoorBj
namespace Go.Proofs.YtfineedhebhpaaaGreatDoor
set_option linter.unusedVariables false
set_option linter.unusedSimpArgs false
def tab {α:Type} (m:Nat) (g:Nat→α):List α:=(List.range m).map g
section
variable {α β:Type} {m i q:Nat} {g h:Nat→α} {x:α}
end
section
variable {u d z s:Rat} {f g:Nat→Rat} {n k i q t:Nat}
end
def IB (D B:Nat) (x:Rat):Prop:= ∃k:Int,x*((D:Int):Rat)=(k:Rat)∧k.natAbs≤B
theorem IB.mono {D B B':Nat} {x:Rat} (h:IB D B x) (hb:B≤B'):IB D B' x:=by
 obtain ⟨k,h1,h2⟩:=h
 exact ⟨k,h1,Nat.le_trans h2 hb⟩
end Go.Proofs.YtfineedhebhpaaaGreatDoor
