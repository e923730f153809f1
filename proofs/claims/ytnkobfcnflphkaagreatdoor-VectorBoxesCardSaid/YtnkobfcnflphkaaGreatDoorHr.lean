/-
  Several texts in one: Zac.
-/
import Derived.Test.YtnkobfcnflphkaaGreatDoorHt
import Derived.Test.YtnkobfcnflphkaaGreatDoorHp
import Derived.Test.YtnkobfcnflphkaaGreatDoorHv
import Derived.Test.YtnkobfcnflphkaaGreatDoorHz
import Derived.Test.YtnkobfcnflphkaaGreatDoorHb
namespace Go.Proofs.YtnkobfcnflphkaaGreatDoor
open Go.RowKit
set_option linter.unusedVariables false
set_option linter.unusedSimpArgs false
set_option maxRecDepth 20000
set_option maxHeartbeats 4000000
def mnA:Rat→List Rat→Rat
 | m,[]=>m
 | m,x::l=>mnA (mn m x) l
def mxA:Rat→List Rat→Rat
 | m,[]=>m
 | m,x::l=>mxA (mx m x) l
theorem mn_prog {m x:Rat} :mn m x=if cmpR x m<0 then x else m:=min_same m x
theorem mx_prog {m x:Rat} :mx m x=if 0<cmpR x m then x else m:=max_same m x
theorem mn_rsz {j:Nat} {m x:Rat} (h:RSz j m) (k:RSz j x):RSz j (mn m x):=by unfold mn;split<;>assumption
theorem mx_rsz {j:Nat} {m x:Rat} (h:RSz j m) (k:RSz j x):RSz j (mx m x):=by unfold mx;split<;>assumption
theorem mnA_le: ∀ {l:List Rat} {m x:Rat},m≤x∨(∃y∈l,y≤x)→mnA m l≤x
 | [],m,x,h=>by
   rcases h with h | ⟨y,hy,_⟩
   ·exact h
   ·cases hy
 | y::l,m,x,h=>by
   show mnA (mn m y) l≤x
   refine mnA_le ?_
   rcases mn_cases m y with ⟨e,h1⟩ | ⟨e,h1⟩<;>rw [e]
   ·rcases h with h | ⟨z,hz,hzx⟩
    ·exact .inl h
    ·rcases List.mem_cons.1 hz with rfl | hz
     ·exact .inl (Rat.le_trans h1 hzx)
     ·exact .inr ⟨z,hz,hzx⟩
   ·rcases h with h | ⟨z,hz,hzx⟩
    ·exact .inl (Rat.le_trans h1 h)
    ·rcases List.mem_cons.1 hz with rfl | hz
     ·exact .inl hzx
     ·exact .inr ⟨z,hz,hzx⟩
theorem le_mxA: ∀ {l:List Rat} {m x:Rat},x≤m∨(∃y∈l,x≤y)→x≤mxA m l
 | [],m,x,h=>by
   rcases h with h | ⟨y,hy,_⟩
   ·exact h
   ·cases hy
 | y::l,m,x,h=>by
   show x≤mxA (mx m y) l
   refine le_mxA ?_
   rcases mx_cases m y with ⟨e,h1⟩ | ⟨e,h1⟩<;>rw [e]
   ·rcases h with h | ⟨z,hz,hzx⟩
    ·exact .inl h
    ·rcases List.mem_cons.1 hz with rfl | hz
     ·exact .inl (Rat.le_trans hzx h1)
     ·exact .inr ⟨z,hz,hzx⟩
   ·rcases h with h | ⟨z,hz,hzx⟩
    ·exact .inl (Rat.le_trans h h1)
    ·rcases List.mem_cons.1 hz with rfl | hz
     ·exact .inl hzx
     ·exact .inr ⟨z,hz,hzx⟩
theorem mn_of_le {a b:Rat} (h:a≤b):mn a b=a:=by
 rcases mn_cases a b with ⟨e,_⟩ | ⟨e,h2⟩
 ·exact e
 ·rw [e];grind
theorem mx_of_le {a b:Rat} (h:a≤b):mx a b=b:=by
 rcases mx_cases a b with ⟨e,h2⟩ | ⟨e,_⟩
 ·rw [e];grind
 ·exact e
end Go.Proofs.YtnkobfcnflphkaaGreatDoor
