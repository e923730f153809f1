/-
  Several texts in one: Zm, Zn, Zp, Zq, Zy.
-/
import Derived.Test.YtnkobfcnflphkaaGreatDoorBj
import Derived.Test.YtnkobfcnflphkaaGreatDoorGr
namespace Go.Proofs.YtnkobfcnflphkaaGreatDoor
set_option linter.unusedVariables false
set_option linter.unusedSimpArgs false
def tab {α:Type} (m:Nat) (g:Nat→α):List α:=(List.range m).map g
section
variable {α β:Type} {m i q:Nat} {g h:Nat→α} {x:α}
@[simp] theorem tab_len:(tab m g).length=m:=by unfold tab;simp
theorem tab_get?:(tab m g)[q]?=if q<m then some (g q) else none:=by
 unfold tab
 rw [List.getElem?_map]
 by_cases h:q<m
 ·rw [if_pos h,List.getElem?_range h];rfl
 ·rw [if_neg h,List.getElem?_eq_none (by simpa using h)];rfl
theorem tab_get (hq:q<m):(tab m g)[q]?=some (g q):=by rw [tab_get?,if_pos hq]
theorem tab_eq {l:List α} (hl:l.length=m) (h: ∀q,q<m→l[q]?=some (g q)):l=tab m g:=by
 refine List.ext_getElem? fun q=>?_
 rw [tab_get?]
 by_cases hq:q<m
 ·rw [if_pos hq,h q hq]
 ·rw [if_neg hq,List.getElem?_eq_none (by omega)]
theorem tab_congr (he: ∀q,q<m→g q=h q):tab m g=tab m h:=tab_eq tab_len fun q hq=>by rw [tab_get hq,he q hq]
theorem tab_set (hi:i<m) (h1:h i=x) (h2: ∀q,q<m→q≠i→h q=g q):(tab m g).set i x=tab m h:=tab_eq (by simp) fun q hq=>by
 by_cases hqi:q=i
 ·subst hqi
  rw [List.getElem?_set_self (by simpa using hq),h1]
 ·rw [List.getElem?_set_ne (Ne.symm hqi),tab_get hq,h2 q hq hqi]
theorem tab_rep:List.replicate m x=tab m fun _=>x:=tab_eq (by simp) fun q hq=>by rw [List.getElem?_replicate,if_pos hq]
end
section
variable {u d z s:Rat} {f g:Nat→Rat} {n k i q t:Nat}
end
def IB (D B:Nat) (x:Rat):Prop:= ∃k:Int,x*((D:Int):Rat)=(k:Rat)∧k.natAbs≤B
theorem IB.mono {D B B':Nat} {x:Rat} (h:IB D B x) (hb:B≤B'):IB D B' x:=by
 obtain ⟨k,h1,h2⟩:=h
 exact ⟨k,h1,Nat.le_trans h2 hb⟩
end Go.Proofs.YtnkobfcnflphkaaGreatDoor
namespace Go.Proofs.YtnkobfcnflphkaaGreatDoor
set_option linter.unusedVariables false
set_option linter.unusedSimpArgs false
section
variable {a b:Nat→Rat} {m n i j k N:Nat}
end
end Go.Proofs.YtnkobfcnflphkaaGreatDoor
namespace Go.Proofs.YtnkobfcnflphkaaGreatDoor
set_option linter.unusedVariables false
set_option linter.unusedSimpArgs false
section
variable {s z t u d:Rat} {f:Nat→Rat} {n i:Nat}
end
end Go.Proofs.YtnkobfcnflphkaaGreatDoor
namespace Go.Proofs.YtnkobfcnflphkaaGreatDoor
set_option linter.unusedVariables false
set_option linter.unusedSimpArgs false
end Go.Proofs.YtnkobfcnflphkaaGreatDoor
namespace Go.Proofs.YtnkobfcnflphkaaGreatDoor
set_option linter.unusedVariables false
set_option linter.unusedSimpArgs false
abbrev S3 (s:Int):Prop:=s= -1∨s=0∨s=1
section
variable {f:Nat→Rat} {n:Nat} {t:Rat}
end
section
variable {a b:Rat} {e:Int}
end
end Go.Proofs.YtnkobfcnflphkaaGreatDoor
