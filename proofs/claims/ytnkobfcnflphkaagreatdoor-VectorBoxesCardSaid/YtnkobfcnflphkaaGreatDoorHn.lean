/-
  Several texts in one: Na, Nb, Nc, Nd, Ne, Nf.
-/
import Derived.Test.YtnkobfcnflphkaaGreatDoorGk
import Derived.Test.YtnkobfcnflphkaaGreatDoorEv
namespace Go.Proofs.YtnkobfcnflphkaaGreatDoor
open Go.RowKit
set_option linter.unusedVariables false
set_option linter.unusedSimpArgs false
set_option maxRecDepth 20000
set_option maxHeartbeats 4000000
abbrev nmD (j:Nat) (x:Rat):List D:= [.q x j 0,.q x j 1,.q x j 2]
abbrev rats (j:Nat) (l:List Rat):C:=lsG 3 (nmD j) l
instance (j:Nat):Elm 3 (nmD j):=⟨fun _=>rfl,fun _=>rfl⟩
theorem dd_q {W0 w:World} {x:Value} {r:Rat} {j k i:Nat} (h:j≤k) (hd:dd W0 w x (.q r j i)):dd W0 w x (.q r k i):=by
 unfold dd at hd⊢
 match i,hd with
 | 0,hd=>exact ⟨hd.1,Nat.zero_le _⟩
 | 1,hd=>exact ⟨hd.1,Nat.le_trans hd.2 h⟩
 | _+2,hd=>exact ⟨hd.1,Nat.le_trans hd.2 h⟩
theorem ddL_q {W0 w:World} {b j k:Nat} (h:j≤k): ∀ {l:List Rat} {off:Nat},ddL W0 w b off (l.flatMap (nmD j))→ddL W0 w b off (l.flatMap (nmD k))
 | [],_,hd=>hd
 | x::l,off,hd=>by
   rw [List.flatMap_cons] at hd⊢
   show ddL W0 w b off (.q x k 0:: .q x k 1:: .q x k 2::l.flatMap (nmD k))
   replace hd:ddL W0 w b off (.q x j 0:: .q x j 1:: .q x j 2::l.flatMap (nmD j)):=hd
   simp only [ddL] at hd⊢
   obtain ⟨⟨v0,a0,a1,a2⟩,⟨v1,b0,b1,b2⟩,⟨v2,c0,c1,c2⟩,r⟩:=hd
   exact ⟨⟨v0,a0,a1,dd_q h a2⟩,⟨v1,b0,b1,dd_q h b2⟩,⟨v2,c0,c1,dd_q h c2⟩,ddL_q h r⟩
theorem EntC.ratsLe {j k:Nat} {l:List Rat} (h:j≤k):EntC (rats j l) (rats k l):=fun W0 μ sz w x hx=>by
 unfold cc dd at hx⊢
 obtain ⟨h0,ao,cap,h1,h2,h3⟩:=hx
 refine ⟨flat_len (f:=nmD k) (es:=3) (fun _=>rfl) l,ao,cap,h1,h2,fun hne=>?_⟩
 have hne':l.flatMap (nmD j)≠ []:=fun h0=>by
  cases l with
  | nil=>exact hne rfl
  | cons a l=>cases h0
 obtain ⟨b,off,h4,h5⟩:=h3 hne'
 exact ⟨b,off,h4,ddL_q h h5⟩
theorem EntC.ratsNil {j:Nat} :EntC (.v (.slice none 0 0)) (rats j []):=fun W0 μ sz w x hx=>by
 have hx:x= .slice none 0 0:=hx
 unfold cc dd
 exact ⟨rfl,none,0,hx,Nat.le_refl _,fun h=>absurd rfl h⟩
theorem dnOf_sz {k:Nat} {x:Rat} (h:Sz k x.den):(toL (dnOf x)).length≤k:=by
 unfold dnOf
 split
 ·simp [toL]
 ·exact h
theorem EntC.qs {x:Rat} {j k i:Nat} (h:RSz k x):EntC (.q x j i) (.q x k i):=fun _ _ _ _ _ hv=>by
 match i with
 | 0=>exact ⟨hv.1,Nat.zero_le _⟩
 | 1=>exact ⟨hv.1,h.1⟩
 | _+2=>exact ⟨hv.1,dnOf_sz h.2⟩
theorem EntC.qe {x y:Rat} {j k i:Nat} (e:x=y) (h:RSz k y):EntC (.q x j i) (.q y k i):=e▸EntC.qs (e▸h)
end Go.Proofs.YtnkobfcnflphkaaGreatDoor
namespace Go.Proofs.YtnkobfcnflphkaaGreatDoor
open Go.RowKit
set_option linter.unusedVariables false
set_option linter.unusedSimpArgs false
set_option maxRecDepth 20000
set_option maxHeartbeats 4000000
abbrev errV (n:Int):AV:= .one (.v (.int .i64 n))
end Go.Proofs.YtnkobfcnflphkaaGreatDoor
namespace Go.Proofs.YtnkobfcnflphkaaGreatDoor
open Go.RowKit
set_option linter.unusedVariables false
set_option linter.unusedSimpArgs false
set_option maxRecDepth 20000
set_option maxHeartbeats 4000000
theorem blkL_ne {α:Type} {n:Nat} {f:α→List D} (hf:Elm n f) {l:List α} (hn:0<n) (h:0<l.length):0<(blkL f l).length:=by rw [blkL_len hf];exact Nat.mul_pos h hn
end Go.Proofs.YtnkobfcnflphkaaGreatDoor
namespace Go.Proofs.YtnkobfcnflphkaaGreatDoor
open Go.RowKit
set_option linter.unusedVariables false
set_option linter.unusedSimpArgs false
set_option maxRecDepth 20000
set_option maxHeartbeats 4000000
end Go.Proofs.YtnkobfcnflphkaaGreatDoor
namespace Go.Proofs.YtnkobfcnflphkaaGreatDoor
open Go.RowKit
set_option linter.unusedVariables false
set_option linter.unusedSimpArgs false
set_option maxRecDepth 20000
set_option maxHeartbeats 4000000
theorem fin_g {P:Program} {r:ResultVar} {R a:AV} {σ:St} {bs:List (Nat×List C×List C)} {ns:List (Nat×List C)} (h:ResIs P σ r a) (hE:Ent a R) (hb: ∀p∈bs,σ.sz p.1=p.2.2.length∧rdL (σ.m p.1) 0 p.2.2.length=p.2.2∧p.2.2.all nlB=true) (hn: ∀q∈ns,BlkOk σ [] q∨BlkOk σ (ns.map (·.1)) q):Fin P [r] bs R σ∧FinN ns σ:=
 ⟨fin_ro h hE hb,fun q hq=>by rcases hn q hq with h | h<;>exact h.1⟩
end Go.Proofs.YtnkobfcnflphkaaGreatDoor
namespace Go.Proofs.YtnkobfcnflphkaaGreatDoor
open Go.RowKit
set_option linter.unusedVariables false
set_option linter.unusedSimpArgs false
set_option maxRecDepth 20000
set_option maxHeartbeats 4000000
def RevI (l cur:List Rat) (i:Nat):Prop:=cur.length=l.length∧ ∀q,q<l.length→cur[q]?=if q<i∨l.length≤q+i then l[l.length-1-q]? else l[q]?
theorem RevI.start (l:List Rat):RevI l l 0:=⟨rfl,fun q hq=>by rw [if_neg (by omega)]⟩
theorem RevI.step {l cur:List Rat} {i j:Nat} {x y:Rat} (h:RevI l cur i) (hj:j+i+1=l.length) (hij:i<j) (hx:cur[i]?=some x) (hy:cur[j]?=some y):RevI l ((cur.set i y).set j x) (i+1):=by
 refine ⟨by rw [List.length_set,List.length_set];exact h.1,fun q hq=>?_⟩
 have e1:=h.2 i (by omega)
 rw [if_neg (by omega),hx] at e1
 have e2:=h.2 j (by omega)
 rw [if_neg (by omega),hy] at e2
 by_cases hqj:q=j
 ·subst hqj
  rw [List.getElem?_set_self (by rw [List.length_set,h.1];omega),if_pos (by omega),show l.length-1-q=i by omega,←e1]
 ·rw [List.getElem?_set_ne (Ne.symm hqj)]
  by_cases hqi:q=i
  ·subst hqi
   rw [List.getElem?_set_self (by rw [h.1];omega),if_pos (by omega),show l.length-1-q=j by omega,←e2]
  ·rw [List.getElem?_set_ne (Ne.symm hqi),h.2 q hq]
   by_cases hc:q<i∨l.length≤q+i
   ·rw [if_pos hc,if_pos (by omega)]
   ·rw [if_neg hc,if_neg (by omega)]
theorem RevI.done {l cur:List Rat} {i:Nat} (h:RevI l cur i) (hi:l.length≤2*i+1):cur=l.reverse:=by
 refine List.ext_getElem? fun q=>?_
 by_cases hq:q<l.length
 ·rw [h.2 q hq,List.getElem?_reverse hq]
  by_cases hc:q<i∨l.length≤q+i
  ·rw [if_pos hc]
  ·rw [if_neg hc,show l.length-1-q=q by omega]
 ·rw [List.getElem?_eq_none (by rw [h.1];omega),List.getElem?_eq_none (by simp;omega)]
end Go.Proofs.YtnkobfcnflphkaaGreatDoor
