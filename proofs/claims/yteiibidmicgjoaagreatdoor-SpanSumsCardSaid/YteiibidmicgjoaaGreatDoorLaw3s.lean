/-
  SpanSums, run by the executor: products and squares are numbers by name.
-/
import Derived.Test.YteiibidmicgjoaaGreatDoorSi
import Derived.Test.YteiibidmicgjoaaGreatDoorGz
namespace Go.Proofs.YteiibidmicgjoaaGreatDoor
open Go.RowKit
set_option linter.unusedVariables false
set_option maxRecDepth 10000000
def sumsLay:Lay:= [(7,.p [([65813],.ofNat 1)]),(15,.p [([65821],.ofNat 1)]),(6,.g 0 [⟨[([21],1)],0⟩,⟨[([29],1)],0⟩,⟨[([65813],1)],0⟩,⟨[([65821],1)],0⟩]),(14,.g 1 [⟨[([21],1)],0⟩,⟨[([29],1)],0⟩,⟨[([65813],1)],0⟩,⟨[([65821],1)],0⟩]),(22,.g 0 [⟨[([21],1)],0⟩,⟨[([29],1)],0⟩,⟨[([15],1)],0⟩,⟨[([7],1)],0⟩]),(30,.g 1 [⟨[([21],1)],0⟩,⟨[([29],1)],0⟩,⟨[([15],1)],0⟩,⟨[([7],1)],0⟩]),(38,.g 8 [⟨[([21],1)],0⟩,⟨[([29],1)],0⟩]),(46,.g 9 [⟨[([21],1)],0⟩,⟨[([29],1)],0⟩])]
def sumsCerts:List Cert:= [⟨[([([21],.ofNat 1),([29],.negSucc 0)],1)],[(0,[.f 0]),(0,[.a 0])],[]⟩,
 ⟨[([([21],.ofNat 1)],0),([([29],.ofNat 1)],2)],[(0,[.f 1]),(0,[.a 0])],[(false,0,[([],.ofNat 1)])]⟩,
 ⟨[([([21],.ofNat 1)],1),([([29],.ofNat 1)],0)],[(0,[.f 0]),(0,[.a 0])],[(false,1,[([],.negSucc 0)])]⟩,
 ⟨[([([21],.ofNat 1)],1),([([29],.ofNat 1)],2)],[(0,[.f 0]),(0,[.f 1]),(0,[.a 0])],[]⟩,
 ⟨[([([21],.ofNat 1)],0),([([29],.ofNat 1)],0),([([21],.ofNat 1),([29],.negSucc 0)],2)],[(0,[.f 2])],[(false,0,[([],.ofNat 1)]),(false,1,[([],.negSucc 0)])]⟩,
 ⟨[([([21],.ofNat 1)],0),([([29],.ofNat 1)],1),([([21],.ofNat 1),([29],.negSucc 0)],0)],[(0,[.f 1])],[(false,0,[([],.negSucc 0)]),(false,2,[([],.ofNat 1)])]⟩,
 ⟨[([([21],.ofNat 1)],2),([([29],.ofNat 1)],0),([([21],.ofNat 1),([29],.negSucc 0)],0)],[(0,[.f 0])],[(false,1,[([],.ofNat 1)]),(false,2,[([],.ofNat 1)])]⟩,
 ⟨[([([21],.ofNat 1)],2),([([29],.ofNat 1)],1),([([21],.ofNat 1),([29],.negSucc 0)],0)],[(0,[.f 0]),(0,[.f 1])],[(false,2,[([],.ofNat 1)])]⟩,
 ⟨[([([65813],.ofNat 1),([65821],.negSucc 0)],1)],[(0,[.f 0]),(0,[.a 1])],[]⟩,
 ⟨[([([65813],.ofNat 1)],0),([([65821],.ofNat 1)],2)],[(0,[.f 1]),(0,[.a 1])],[(false,0,[([],.ofNat 1)])]⟩,
 ⟨[([([65813],.ofNat 1)],1),([([65821],.ofNat 1)],0)],[(0,[.f 0]),(0,[.a 1])],[(false,1,[([],.negSucc 0)])]⟩,
 ⟨[([([65813],.ofNat 1)],1),([([65821],.ofNat 1)],2)],[(0,[.f 0]),(0,[.f 1]),(0,[.a 1])],[]⟩,
 ⟨[([([65813],.ofNat 1)],0),([([65821],.ofNat 1)],0),([([65813],.ofNat 1),([65821],.negSucc 0)],2)],[(0,[.f 2])],[(false,0,[([],.ofNat 1)]),(false,1,[([],.negSucc 0)])]⟩,
 ⟨[([([65813],.ofNat 1)],0),([([65821],.ofNat 1)],1),([([65813],.ofNat 1),([65821],.negSucc 0)],0)],[(0,[.f 1])],[(false,0,[([],.negSucc 0)]),(false,2,[([],.ofNat 1)])]⟩,
 ⟨[([([65813],.ofNat 1)],2),([([65821],.ofNat 1)],0),([([65813],.ofNat 1),([65821],.negSucc 0)],0)],[(0,[.f 0])],[(false,1,[([],.ofNat 1)]),(false,2,[([],.ofNat 1)])]⟩,
 ⟨[([([65813],.ofNat 1)],2),([([65821],.ofNat 1)],1),([([65813],.ofNat 1),([65821],.negSucc 0)],0)],[(0,[.f 0]),(0,[.f 1])],[(false,2,[([],.ofNat 1)])]⟩]
theorem law_SpanSums {l:List Int} (hb: ∀x∈l,-9223372036854775808≤x∧x<9223372036854775808):Ctr Tryz.prog Amb 3 [.one (.ints l)] (.one (.v (.bool true))):=
 lawY (pairG spanPs) (lay:=sumsLay) (nf:= []) (inf:=infOf sumsCerts) (ex:=spanL (invs (tabL sumsLay)) (infOf sumsCerts) (appL sumsLay)) 0 aw3 (by kernel_rfl) (fun E hT hA hD _=>by
  have hI:InfOk E (infOf sumsCerts):=infC (ax:= [spanAx 0 0,spanAx 257 0]) (az:= []) (fun p hp=>by
   rcases List.mem_cons.1 hp with rfl | hp
   ·exact spanAx_ok hD 0 0 (by decide)
   ·rcases List.mem_cons.1 hp with rfl | hp
    ·exact spanAx_ok hD 257 0 (by decide)
    ·cases hp) (fun p hp=>by cases hp) (by kernel_rfl)
  exact ⟨hI,spanL_ok hT.inv hI hA⟩) (by kernel_rfl) (by kernel_rfl) (I:=fun _=>0) hb (fun a h=>absurd h (Nat.not_lt_zero a))
end Go.Proofs.YteiibidmicgjoaaGreatDoor
