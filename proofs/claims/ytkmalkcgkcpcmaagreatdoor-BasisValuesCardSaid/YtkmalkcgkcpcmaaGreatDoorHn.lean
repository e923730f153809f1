/-
  Several texts in one: Nb, Nc, Nd, Ne, Nf.
-/
import Derived.Test.YtkmalkcgkcpcmaaGreatDoorHy
namespace Go.Proofs.YtkmalkcgkcpcmaaGreatDoor
open List renaming getElem?_eq_getElem→Yi
open Go.RowKit
set_option linter.unusedVariables false
set_option linter.unusedSimpArgs false
set_option maxRecDepth 20000
set_option maxHeartbeats 4000000
def LY (l:List Rat):Rat:=l.getD 0 0
def FT (l:List Rat):Rat:=l.getD (l.length-1) 0
theorem T8 {l:List Rat} (h:0<l.length):l[(0:Int).toNat]?=some (LY l):=by
 show l[0]?=_
 unfold LY
 rw [List.getD_eq_getElem?_getD,Yi h];rfl
theorem TE {l:List Rat} (h:0<l.length):l[((l.length-1:Nat):Int).toNat]?=some (FT l):=by
 rw [Int.toNat_natCast]
 unfold FT
 rw [List.getD_eq_getElem?_getD,Yi (show l.length-1<l.length by omega)];rfl
theorem BC {l:List Rat} {i:Nat} (h:i<l.length): ∃x,l[((i:Nat):Int).toNat]?=some x∧l[i]?=some x:=⟨_,by rw [Int.toNat_natCast];exact Yi h,Yi h⟩
theorem Fy {x y:Rat} :C4 x y≥0↔ ¬x<y:=by
 unfold C4
 by_cases h:x<y
 ·rw [if_pos h];simp [h]
 ·rw [if_neg h]
  split<;>simp [h]
abbrev Aj (n:Int):AV:= .one (.v (.int .i64 n))
theorem VF {l:List Rat} {i:Nat} (h:i<l.length):l[((i:Nat):Int).toNat]?=some (l.getD i 0):=by
 rw [Int.toNat_natCast,List.getD_eq_getElem?_getD,Yi h];rfl
theorem E0 {j p:Nat} {l:List Rat} (hl:l.length≤1000000) (hp:p+1≤l.length):Ctr Tryz.prog Amb 15 [.one (Ax j l),Aj (p:Nat)] (Aj ((l.length-p-1:Nat):Int)):=by
 have b1:=BB (k:= .i64) (show (IntKind.i64).wrap ((l.length:Int)-p)=((l.length-p:Nat):Int) by rw [show ((l.length:Int)-p)=((l.length-p:Nat):Int) by omega];exact IntWalk.i64_in _ (by omega))
 have b2:=BB (k:= .i64) (show (IntKind.i64).wrap (((l.length-p:Nat):Int)-1)=((l.length-p-1:Nat):Int) by rw [show (((l.length-p:Nat):Int)-1)=((l.length-p-1:Nat):Int) by omega];exact IntWalk.i64_in _ (by omega))
 refine As Tryz.func15 rfl rfl rfl rfl rfl rfl ?_
 intro W0 base D μ0 hA hD
 repeat (first|refine Ah ?_|refine Ad ?_|refine Ab rfl ?_|refine Ac rfl ?_|refine AT ?_|refine AU ?_|refine Ae ?_|refine Af ?_)
 refine AG (And.intro (Or.inr rfl) ?_)
 exact B7
theorem EB {j p:Nat} {l:List Rat} (hl:l.length≤1000000) (hp:p+1≤l.length):Ctr Tryz.prog Amb 14 [.one (Ax j l),Aj (p:Nat)] (Aj ((l.length-p-1:Nat):Int)):=by
 have b1:=BB (k:= .i64) (show (IntKind.i64).wrap ((l.length:Int)-p)=((l.length-p:Nat):Int) by rw [show ((l.length:Int)-p)=((l.length-p:Nat):Int) by omega];exact IntWalk.i64_in _ (by omega))
 have b2:=BB (k:= .i64) (show (IntKind.i64).wrap (((l.length-p:Nat):Int)-1)=((l.length-p-1:Nat):Int) by rw [show (((l.length-p:Nat):Int)-1)=((l.length-p-1:Nat):Int) by omega];exact IntWalk.i64_in _ (by omega))
 refine As Tryz.func14 rfl rfl rfl rfl rfl rfl ?_
 intro W0 base D μ0 hA hD
 repeat (first|refine Ah ?_|refine Ad ?_|refine Ab rfl ?_|refine Ac rfl ?_|refine AT ?_|refine AU ?_|refine Ae ?_|refine Af ?_)
 refine AG (And.intro (Or.inr rfl) ?_)
 exact B7
def PK (l cur:List Rat) (i:Nat):Prop:=cur.length=l.length∧ ∀q,q<l.length→cur[q]?=if q<i∨l.length≤q+i then l[l.length-1-q]? else l[q]?
theorem PK.start (l:List Rat):PK l l 0:=⟨rfl,fun q hq=>by rw [if_neg (by omega)]⟩
theorem PK.step {l cur:List Rat} {i j:Nat} {x y:Rat} (h:PK l cur i) (hj:j+i+1=l.length) (hij:i<j) (hx:cur[i]?=some x) (hy:cur[j]?=some y):PK l ((cur.set i y).set j x) (i+1):=by
 refine ⟨by rw [List.length_set,List.length_set];exact h.1,fun q hq=>?_⟩
 have e1:=h.2 i (by omega)
 rw [if_neg (by omega),hx] at e1
 have e2:=h.2 j (by omega)
 rw [if_neg (by omega),hy] at e2
 by_cases hqj:q=j
 ·subst hqj
  rw [List.getElem?_set_self (by rw [List.length_set,h.1];omega),if_pos (by omega),show l.length-1-q=i by omega,←e1]
 ·rw [List.getElem?_set_ne (Ne.symm hqj)]
  by_cases hqi:q=i
  ·subst hqi
   rw [List.getElem?_set_self (by rw [h.1];omega),if_pos (by omega),show l.length-1-q=j by omega,←e2]
  ·rw [List.getElem?_set_ne (Ne.symm hqi),h.2 q hq]
   by_cases hc:q<i∨l.length≤q+i
   ·rw [if_pos hc,if_pos (by omega)]
   ·rw [if_neg hc,if_neg (by omega)]
theorem PK.done {l cur:List Rat} {i:Nat} (h:PK l cur i) (hi:l.length≤2*i+1):cur=l.reverse:=by
 refine List.ext_getElem? fun q=>?_
 by_cases hq:q<l.length
 ·rw [h.2 q hq,List.getElem?_reverse hq]
  by_cases hc:q<i∨l.length≤q+i
  ·rw [if_pos hc]
  ·rw [if_neg hc,show l.length-1-q=q by omega]
 ·rw [List.getElem?_eq_none (by rw [h.1];omega),List.getElem?_eq_none (by simp;omega)]
end Go.Proofs.YtkmalkcgkcpcmaaGreatDoor
