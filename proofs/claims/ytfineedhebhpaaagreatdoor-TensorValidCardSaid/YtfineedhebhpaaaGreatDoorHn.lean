/-
  Several texts in one: Nb, Nc, Nd, Ne, Nf.
-/
import Derived.Test.YtfineedhebhpaaaGreatDoorHy
namespace Go.Proofs.YtfineedhebhpaaaGreatDoor
open List renaming getElem?_eq_getElem→Yv
open Go.RowKit
set_option linter.unusedVariables false
set_option linter.unusedSimpArgs false
set_option maxRecDepth 20000
set_option maxHeartbeats 4000000
theorem Ge {l:List Rat} {i:Nat} (h:i<l.length): ∃x,l[((i:Nat):Int).toNat]?=some x∧l[i]?=some x:=⟨_,by rw [Int.toNat_natCast];exact Yv h,Yv h⟩
abbrev Ay (n:Int):AV:= .one (.v (.int .i64 n))
theorem Cr {α:Type} {n:Nat} {f:α→List D} (hf:Elm n f) {l:List α} (hn:0<n) (h:0<l.length):0<(Ao f l).length:=by rw [Av hf];exact Nat.mul_pos h hn
theorem Qx {l:List Rat} {i:Nat} (h:i<l.length):l[((i:Nat):Int).toNat]?=some (l.getD i 0):=by
 rw [Int.toNat_natCast,List.getD_eq_getElem?_getD,Yv h];rfl
theorem Vx {l:List Rat} {i n:Nat} {x:Rat} {h:Rat→Rat} (hn:n=l.length) (hx:l[i]?=some x):((l.take i).map h++List.replicate (n-i) 0).set i (h x)=(l.take (i+1)).map h++List.replicate (n-(i+1)) 0:=by
 have hi:=(List.getElem?_eq_some_iff.1 hx).1
 have e:n-i=(n-(i+1))+1:=by omega
 rw [e,List.replicate_succ,List.set_append_right _ _ (by rw [List.length_map,List.length_take];omega),List.length_map,List.length_take,Nat.min_eq_left (by omega),Nat.sub_self,List.set_cons_zero,List.take_add_one,hx,List.map_append,List.append_assoc]
 rfl
theorem IG {P:Program} {r:ResultVar} {R a:AV} {σ:St} {bs:List (Nat×List C×List C)} {ns:List (Nat×List C)} (h:ResIs P σ r a) (hE:Ent a R) (hb: ∀p∈bs,σ.sz p.1=p.2.2.length∧rdL (σ.m p.1) 0 p.2.2.length=p.2.2∧p.2.2.all nlB=true) (hn: ∀q∈ns,DD σ [] q∨DD σ (ns.map (·.1)) q):Fin P [r] bs R σ∧U6 ns σ:=
 ⟨Uq h hE hb,fun q hq=>by rcases hn q hq with h|h<;>exact h.1⟩
def Oq (l cur:List Rat) (i:Nat):Prop:=cur.length=l.length∧ ∀q,q<l.length→cur[q]?=if q<i∨l.length≤q+i then l[l.length-1-q]? else l[q]?
theorem Oq.start (l:List Rat):Oq l l 0:=⟨rfl,fun q hq=>by rw [if_neg (by omega)]⟩
theorem Oq.step {l cur:List Rat} {i j:Nat} {x y:Rat} (h:Oq l cur i) (hj:j+i+1=l.length) (hij:i<j) (hx:cur[i]?=some x) (hy:cur[j]?=some y):Oq l ((cur.set i y).set j x) (i+1):=by
 refine ⟨by rw [List.length_set,List.length_set];exact h.1,fun q hq=>?_⟩
 have e1:=h.2 i (by omega)
 rw [if_neg (by omega),hx] at e1
 have e2:=h.2 j (by omega)
 rw [if_neg (by omega),hy] at e2
 by_cases hqj:q=j
 ·subst hqj
  rw [List.getElem?_set_self (by rw [List.length_set,h.1];omega),if_pos (by omega),show l.length-1-q=i by omega,←e1]
 ·rw [List.getElem?_set_ne (Ne.symm hqj)]
  by_cases hqi:q=i
  ·subst hqi
   rw [List.getElem?_set_self (by rw [h.1];omega),if_pos (by omega),show l.length-1-q=j by omega,←e2]
  ·rw [List.getElem?_set_ne (Ne.symm hqi),h.2 q hq]
   by_cases hc:q<i∨l.length≤q+i
   ·rw [if_pos hc,if_pos (by omega)]
   ·rw [if_neg hc,if_neg (by omega)]
theorem Oq.done {l cur:List Rat} {i:Nat} (h:Oq l cur i) (hi:l.length≤2*i+1):cur=l.reverse:=by
 refine List.ext_getElem? fun q=>?_
 by_cases hq:q<l.length
 ·rw [h.2 q hq,List.getElem?_reverse hq]
  by_cases hc:q<i∨l.length≤q+i
  ·rw [if_pos hc]
  ·rw [if_neg hc,show l.length-1-q=q by omega]
 ·rw [List.getElem?_eq_none (by rw [h.1];omega),List.getElem?_eq_none (by simp;omega)]
end Go.Proofs.YtfineedhebhpaaaGreatDoor
