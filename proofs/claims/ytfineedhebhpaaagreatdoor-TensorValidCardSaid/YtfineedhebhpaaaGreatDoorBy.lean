/-
  Several texts in one: Qb.
-/
import Derived.Test.YtfineedhebhpaaaGreatDoorBk
import Derived.Test.YtfineedhebhpaaaGreatDoorBa
import Derived.Deep.RegionHeld3
import Derived.Deep.DeepCutAuto
import Derived.Deep.CutBlock
namespace Go.Proofs.YtfineedhebhpaaaGreatDoor
open Go.RowKit
structure P1 (w wc:World) (a0 a1 a2:Value):Prop where
 k:Kp w wc
 ra:Res wc w.heap.size a0 a1 a2
structure P2 (w wc:World) (a0 a1 a2 b0 b1 b2:Value):Prop where
 k:Kp w wc
 ra:Res wc w.heap.size a0 a1 a2
 rb:Res wc (w.heap.size+1) b0 b1 b2
structure One (w wc:World) (a0 a1 a2:Value):Prop where
 k:Kp w wc
 ra:Res wc w.heap.size a0 a1 a2
 rr:Res wc (w.heap.size+1) (.bool false) (.slice none 0 0) (.slice none 0 0)
structure Two (w wc:World) (a0 a1 a2 b0 b1 b2:Value):Prop where
 k:Kp w wc
 ra:Res wc w.heap.size a0 a1 a2
 rb:Res wc (w.heap.size+1) b0 b1 b2
 rr:Res wc (w.heap.size+1+1) (.bool false) (.slice none 0 0) (.slice none 0 0)
structure Nul (w wc:World):Prop where
 k:Kp w wc
 rr:Res wc w.heap.size (.bool false) (.slice none 0 0) (.slice none 0 0)
theorem P1.kp {w wc w':World} {a0 a1 a2:Value} (h:P1 w wc a0 a1 a2) (k:Kp wc w'):P1 w w' a0 a1 a2:=⟨h.k.tr k,h.ra.kp k⟩
theorem P2.kp {w wc w':World} {a0 a1 a2 b0 b1 b2:Value} (h:P2 w wc a0 a1 a2 b0 b1 b2) (k:Kp wc w'):P2 w w' a0 a1 a2 b0 b1 b2:=⟨h.k.tr k,h.ra.kp k,h.rb.kp k⟩
theorem One.kp {w wc w':World} {a0 a1 a2:Value} (h:One w wc a0 a1 a2) (k:Kp wc w'):One w w' a0 a1 a2:=⟨h.k.tr k,h.ra.kp k,h.rr.kp k⟩
theorem Two.kp {w wc w':World} {a0 a1 a2 b0 b1 b2:Value} (h:Two w wc a0 a1 a2 b0 b1 b2) (k:Kp wc w'):Two w w' a0 a1 a2 b0 b1 b2:=⟨h.k.tr k,h.ra.kp k,h.rb.kp k,h.rr.kp k⟩
theorem Nul.kp {w wc w':World} (h:Nul w wc) (k:Kp wc w'):Nul w w':=⟨h.k.tr k,h.rr.kp k⟩
theorem P1.new (w:World) (a0 a1 a2:Value):P1 w (w.alloc (.cells #[a0,a1,a2] 34)) a0 a1 a2:=⟨Kp.alloc w _,Res.new w a0 a1 a2⟩
theorem P2.new (w:World) (a0 a1 a2 b0 b1 b2:Value):P2 w ((w.alloc (.cells #[a0,a1,a2] 34)).alloc (.cells #[b0,b1,b2] 34)) a0 a1 a2 b0 b1 b2:=by
 have h1:=Res.new (w.alloc (.cells #[a0,a1,a2] 34)) b0 b1 b2
 rw [World.size_alloc] at h1
 exact ⟨(Kp.alloc w _).tr (Kp.alloc _ _),(Res.new w a0 a1 a2).kp (Kp.alloc _ _),h1⟩
theorem One.new (w:World) (a0 a1 a2:Value):One w ((w.alloc (.cells #[a0,a1,a2] 34)).alloc (.cells #[.bool false,.slice none 0 0,.slice none 0 0] 34)) a0 a1 a2:=by
 have h1:=Res.new (w.alloc (.cells #[a0,a1,a2] 34)) (.bool false) (.slice none 0 0) (.slice none 0 0)
 rw [World.size_alloc] at h1
 exact ⟨(Kp.alloc w _).tr (Kp.alloc _ _),(Res.new w a0 a1 a2).kp (Kp.alloc _ _),h1⟩
theorem Two.new (w:World) (a0 a1 a2 b0 b1 b2:Value):Two w (((w.alloc (.cells #[a0,a1,a2] 34)).alloc (.cells #[b0,b1,b2] 34)).alloc (.cells #[.bool false,.slice none 0 0,.slice none 0 0] 34)) a0 a1 a2 b0 b1 b2:=by
 have h1:=Res.new (w.alloc (.cells #[a0,a1,a2] 34)) b0 b1 b2
 have h2:=Res.new ((w.alloc (.cells #[a0,a1,a2] 34)).alloc (.cells #[b0,b1,b2] 34)) (.bool false) (.slice none 0 0) (.slice none 0 0)
 rw [World.size_alloc] at h1
 rw [World.size_alloc,World.size_alloc] at h2
 exact ⟨((Kp.alloc w _).tr (Kp.alloc _ _)).tr (Kp.alloc _ _),((Res.new w a0 a1 a2).kp (Kp.alloc _ _)).kp (Kp.alloc _ _),h1.kp (Kp.alloc _ _),h2⟩
theorem Nul.new (w:World):Nul w (w.alloc (.cells #[.bool false,.slice none 0 0,.slice none 0 0] 34)):=⟨Kp.alloc w _,Res.new w _ _ _⟩
theorem Ax.parts {w:World} {v:Value} {x:Rat} (h:Ax w v x): ∃(a1:Option Addr) (l1 c1:Nat) (a2:Option Addr) (l2 c2:Nat),v= .agg #[.bool (decide (x.num<0)),.slice a1 l1 c1,.slice a2 l2 c2]∧M w (.slice a1 l1 c1) x.num.natAbs∧M w (.slice a2 l2 c2) (AX x):=by
 obtain ⟨num,den,rfl,m1,m2⟩:=h
 obtain ⟨a1,l1,c1,rfl⟩:=BQ m1
 obtain ⟨a2,l2,c2,rfl⟩:=BQ m2
 exact ⟨a1,l1,c1,a2,l2,c2,rfl,m1,m2⟩
theorem Ax.mk {w:World} {x:Rat} {p:Bool} {a b:Value} (hp:p=decide (x.num<0)) (h1:M w a x.num.natAbs) (h2:M w b (AX x)):Ax w (.agg #[.bool p,a,b]) x:=⟨a,b,by rw [hp],h1,h2⟩
theorem Bx (x:Rat):AE (decide (x.num<0)) x.num.natAbs x.den=x:=Pa x
def Shb (w:World) (g:Nat) (a b c:Value):Prop:=w.heap[g]?=some (.cells #[a,b,c] 170 (0,0))
theorem Shb.kp {w w':World} {g:Nat} {a b c:Value} (h:Shb w g a b c) (k:Kp w w'):Shb w' g a b c:=by
 unfold Shb
 rw [k.block g (Array.getElem?_eq_some_iff.1 h).1]
 exact h
theorem Shb.new (w:World) (a b c:Value):Shb (w.alloc (Obj.cells #[a,b,c] 170)) w.heap.size a b c:=heap_alloc_new w _
theorem Shb.cells {w:World} {g:Nat} {a b c:Value} (h:Shb w g a b c):w.cell? ⟨g,0,none⟩=some a∧w.cell? ⟨g,1,none⟩=some b∧w.cell? ⟨g,2,none⟩=some c∧w.frozen? ⟨g,0,none⟩=false∧w.frozen? ⟨g,1,none⟩=false∧w.frozen? ⟨g,2,none⟩=false:=
 ⟨cell_of_row w g 0 _ _ _ h,cell_of_row w g 1 _ _ _ h,cell_of_row w g 2 _ _ _ h,frozen_of_row w g 0 _ _ h,frozen_of_row w g 1 _ _ h,frozen_of_row w g 2 _ _ h⟩
theorem Tz.up {w w':World} (h:Tz w) (k:Kp w w'):Tz w':=h.kp k
end Go.Proofs.YtfineedhebhpaaaGreatDoor
