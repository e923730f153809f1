/-
  Several texts in one: QuotL, Q8.
-/
import Derived.Test.YtfineedhebhpaaaGreatDoorBf
import Derived.Test.YtfineedhebhpaaaGreatDoorBy
import Derived.Test.YtfineedhebhpaaaGreatDoorBc
namespace Go.Proofs.YtfineedhebhpaaaGreatDoor
open Go.RowKit
theorem IA {w:World} {o:Option Addr} {l c n:Nat} (h:M w (.slice o l c) n):l=0↔n=0:=by
 obtain ⟨o',c',e,_⟩:=h
 have:=(by simpa using e:o=o'∧l=(toL n).length∧c=c')
 rw [this.2.1,List.length_eq_zero_iff,AU]
end Go.Proofs.YtfineedhebhpaaaGreatDoor
