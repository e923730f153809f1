/-
  Several texts in one: Zac, Zad, Zaf.
-/
import Derived.Test.YtfineedhebhpaaaGreatDoorHt
import Derived.Test.YtfineedhebhpaaaGreatDoorHv
import Derived.Test.YtfineedhebhpaaaGreatDoorHz
import Derived.Test.YtfineedhebhpaaaGreatDoorHa
import Derived.Test.YtfineedhebhpaaaGreatDoorGs
import Derived.Test.YtfineedhebhpaaaGreatDoorHu
import Derived.Test.YtfineedhebhpaaaGreatDoorHy
namespace Go.Proofs.YtfineedhebhpaaaGreatDoor
open List renaming getElem?_eq_getElem→Yv
open Go.RowKit
set_option linter.unusedVariables false
set_option linter.unusedSimpArgs false
set_option maxRecDepth 20000
set_option maxHeartbeats 4000000
theorem UM {m q:Nat} {g:Nat→Rat} (h:q<m):cf (tab m g) q=g q:=FZ 0 h
theorem Vq {m:Nat} {g:Nat→Rat} {p:Rat→Prop} (h: ∀i,i<m→p (g i)): ∀r∈tab m g,p r:=fun r hr=>by
 obtain ⟨i,hi,he⟩:=List.getElem_of_mem hr
 have hi':i<m:=by simpa using hi
 have h2:(tab m g)[i]?=some (g i):=EJ hi'
 rw [Yv hi,he] at h2
 rw [Option.some.inj h2]
 exact h i hi'
theorem GB {t:Rat} {f g:Nat→Rat} {n:Nat} (h: ∀i,i≤n→f i=g i):CB t f n=CB t g n:=by
 unfold CB
 exact ED fun j hj=>h j (by omega)
end Go.Proofs.YtfineedhebhpaaaGreatDoor
