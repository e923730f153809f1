/-
  Several texts in one: Nb, Nc, Nd, Ne, Nf.
-/
import Derived.Test.YtkmalkcgkcpcmaaGreatDoorHy
namespace Go.Proofs.YtkmalkcgkcpcmaaGreatDoor
open List renaming getElem?_eq_getElem→Yk
open Go.RowKit
set_option linter.unusedVariables false
set_option linter.unusedSimpArgs false
set_option maxRecDepth 20000
set_option maxHeartbeats 4000000
def JZ (l:List Rat):Rat:=l.getD 0 0
def Ft (l:List Rat):Rat:=l.getD (l.length-1) 0
theorem T6 {l:List Rat} (h:0<l.length):l[(0:Int).toNat]?=some (JZ l):=by
 show l[0]?=_
 unfold JZ
 rw [List.getD_eq_getElem?_getD,Yk h];rfl
theorem TD {l:List Rat} (h:0<l.length):l[((l.length-1:Nat):Int).toNat]?=some (Ft l):=by
 rw [Int.toNat_natCast]
 unfold Ft
 rw [List.getD_eq_getElem?_getD,Yk (show l.length-1<l.length by omega)];rfl
theorem Cr {l:List Rat} {i:Nat} (h:i<l.length): ∃x,l[((i:Nat):Int).toNat]?=some x∧l[i]?=some x:=⟨_,by rw [Int.toNat_natCast];exact Yk h,Yk h⟩
theorem Pr {x y:Rat} :El x y≥0↔ ¬x<y:=by
 unfold El
 by_cases h:x<y
 ·rw [if_pos h];simp [h]
 ·rw [if_neg h]
  split<;>simp [h]
abbrev Ak (n:Int):AV:= .one (.v (.int .i64 n))
def smR (l:List Rat) (i:Nat):Nat→Rat
 | 0=>0
 | q+1=>smR l i q+l.getD (i+(q+1)) 0
def FJ (l:List Rat) (p:Nat):List Rat:=(List.range (l.length-p-1)).map fun i=>smR l i p*(((1:Int):Rat)/((p:Int):Rat))
theorem Qk {l:List Rat} {i:Nat} (h:i<l.length):l[((i:Nat):Int).toNat]?=some (l.getD i 0):=by
 rw [Int.toNat_natCast,List.getD_eq_getElem?_getD,Yk h];rfl
theorem Sy {j p:Nat} {l:List Rat} (hl:l.length≤1000000) (hp:p+1≤l.length):Ctr Tryz.prog Amb 15 [.one (AS j l),Ak (p:Nat)] (Ak ((l.length-p-1:Nat):Int)):=by
 have b1:=Cj (k:= .i64) (show (IntKind.i64).wrap ((l.length:Int)-p)=((l.length-p:Nat):Int) by rw [show ((l.length:Int)-p)=((l.length-p:Nat):Int) by omega];exact IntWalk.i64_in _ (by omega))
 have b2:=Cj (k:= .i64) (show (IntKind.i64).wrap (((l.length-p:Nat):Int)-1)=((l.length-p-1:Nat):Int) by rw [show (((l.length-p:Nat):Int)-1)=((l.length-p-1:Nat):Int) by omega];exact IntWalk.i64_in _ (by omega))
 refine A0 Tryz.func15 rfl rfl rfl rfl rfl rfl ?_
 intro W0 base D μ0 hA hD
 repeat (first|refine Al ?_|refine Ae ?_|refine Ac rfl ?_|refine Ad rfl ?_|refine BO ?_|refine BP ?_|refine Ai ?_|refine Aj ?_)
 refine BH (And.intro (Or.inr rfl) ?_)
 exact C8
theorem Li {j p:Nat} {l:List Rat} (hl:l.length≤1000000) (hp:p+1≤l.length):Ctr Tryz.prog Amb 14 [.one (AS j l),Ak (p:Nat)] (Ak ((l.length-p-1:Nat):Int)):=by
 have b1:=Cj (k:= .i64) (show (IntKind.i64).wrap ((l.length:Int)-p)=((l.length-p:Nat):Int) by rw [show ((l.length:Int)-p)=((l.length-p:Nat):Int) by omega];exact IntWalk.i64_in _ (by omega))
 have b2:=Cj (k:= .i64) (show (IntKind.i64).wrap (((l.length-p:Nat):Int)-1)=((l.length-p-1:Nat):Int) by rw [show (((l.length-p:Nat):Int)-1)=((l.length-p-1:Nat):Int) by omega];exact IntWalk.i64_in _ (by omega))
 refine A0 Tryz.func14 rfl rfl rfl rfl rfl rfl ?_
 intro W0 base D μ0 hA hD
 repeat (first|refine Al ?_|refine Ae ?_|refine Ac rfl ?_|refine Ad rfl ?_|refine BO ?_|refine BP ?_|refine Ai ?_|refine Aj ?_)
 refine BH (And.intro (Or.inr rfl) ?_)
 exact C8
theorem Mr {j p:Nat} {l:List Rat} (hj:j≤10000) (hl:l.length≤1000000) (hp:1≤p∧p≤100) (hlp:p+1≤l.length):
  Ctr Tryz.prog Amb 46 [.one (AS j l),Ak (p:Nat)] (.one (AS (p*(j+3)+4) (FJ l p))):=by
 have P1:=Sy (j:=j) hl hlp
 have F1:=FF (n:=1) (d:=(p:Int)) (by rw [decide_eq_true (show (1:Int)≤p by omega),decide_eq_true (show (p:Int)<9223372036854775808 by omega)];rfl)
 obtain ⟨N,hN⟩: ∃N,N=l.length-p-1:=⟨_,rfl⟩
 obtain ⟨R,hR⟩: ∃R,R=FJ l p:=⟨_,rfl⟩
 rw [←hR]
 unfold FJ at hR
 rw [←hN] at P1 hR
 generalize ((1:Int):Rat)/((p:Int):Rat)=t at*
 have hsz: ∀q,q≤p→q*(j+3)≤10000000:=fun q hq=>Nat.le_trans (Nat.mul_le_mul (Nat.le_trans hq hp.2) (show j+3≤100000 by omega)) (by decide)
 refine A0 Tryz.func46 rfl rfl rfl rfl rfl rfl ?_
 intro W0 base D μ0 hA hD
 repeat (first|refine Al ?_|refine Ae ?_|refine Ac rfl ?_|refine Ad rfl ?_|refine BO ?_|refine BP ?_|refine Ai ?_|refine Aj ?_)
 refine CE (fun n σ=> ∃(i:Nat) (done:List Rat),n=N-i∧i≤N∧done=(List.range i).map (fun i=>smR l i p*t)∧Wk ⟨W0,base,D,37,[],μ0⟩ σ [(0,.one (AS j l)),(1,Ak (p:Nat)),(5,.one (.gl 900 done.length 3)),(6,Ak (i:Nat))] [(900,AA (nmD (p*(j+3)+4)) done)]) (n:=N) ⟨0,[],by omega,by omega,by simp,?_⟩ ?_
 ·exact BI
 intro n σ hI
 obtain ⟨i,done,hn,hi0,hdone,hw⟩:=hI
 refine Ch hw ?_
 clear hw
 have hlen:done.length=i:=by rw [hdone];simp
 by_cases hi:i<N
 ·have bi:=Cc (k:= .i64) (decide_eq_true (show (i:Int)<(N:Int) by omega))
  have hin:=A5 (k:= .i64) (show (IntKind.i64).wrap ((i:Int)+1)=((i+1:Nat):Int) from IntWalk.i64_in _ (by omega))
  repeat (first|refine Al ?_|refine Ae ?_|refine Ac rfl ?_|refine Ad rfl ?_|refine BO ?_|refine BP ?_|refine Ai ?_|refine Aj ?_)
  refine CE (fun m σ=> ∃(q:Nat),m=p-q∧q≤p∧Wk ⟨W0,base,D,37,[],μ0⟩ σ [(0,.one (AS j l)),(1,Ak (p:Nat)),(5,.one (.gl 900 done.length 3)),(6,Ak (i:Nat)),(7,.one (.ptr 7 0)),(8,Ak ((q+1:Nat):Int))] [(900,AA (nmD (p*(j+3)+4)) done),(7,nmC (q*(j+3)) (smR l i q))]) (n:=p) ⟨0,by omega,by omega,?_⟩ ?_
  ·exact BI
  intro m σ hI
  obtain ⟨q,hm,hq0,hw⟩:=hI
  refine Ch hw ?_
  clear hw
  by_cases hq:q<p
  ·have bq:=Iu (k:= .i64) (decide_eq_true (show ((q+1:Nat):Int)≤(p:Int) by omega))
   have hix:=A5 (k:= .i64) (show (IntKind.i64).wrap ((i:Int)+((q+1:Nat):Int))=((i+(q+1):Nat):Int) from IntWalk.i64_in _ (by omega))
   have hin2:=A5 (k:= .i64) (show (IntKind.i64).wrap (((q+1:Nat):Int)+1)=((q+1+1:Nat):Int) from IntWalk.i64_in _ (by omega))
   have hx:=Qk (l:=l) (i:=i+(q+1)) (by omega)
   have h5:=hsz q hq0
   have A3:=I8 (j:=q*(j+3)) (k:=j) (x:=smR l i q) (y:=l.getD (i+(q+1)) 0) (by omega) (by omega)
   repeat (first|refine Al ?_|refine Ae ?_|refine Ac rfl ?_|refine Ad rfl ?_|refine BO ?_|refine BP ?_|refine Ai ?_|refine Aj ?_)
   have e5:q*(j+3)+j+3=(q+1)*(j+3):=by rw [Nat.add_mul];omega
   refine ⟨m-1,by omega,q+1,by omega,by omega,?_⟩
   rw [←e5]
   exact BI
  ·obtain rfl:q=p:=by omega
   have bq:=Iu (k:= .i64) (decide_eq_false (show ¬((q+1:Nat):Int)≤(q:Int) by omega))
   have h5:=hsz q hq0
   have M3:=Wi (j:=q*(j+3)) (k:=2) (x:=smR l i q) (y:=t) (by omega) (by omega)
   repeat (first|refine Al ?_|refine Ae ?_|refine Ac rfl ?_|refine Ad rfl ?_|refine BO ?_|refine BP ?_|refine Ai ?_|refine Aj ?_)
   try refine Al ?_
   refine G9 6 (by simp only [List.take_succ_cons,List.take_zero,List.drop_succ_cons,List.drop_zero];exact ⟨rfl,rfl⟩) (by kernel_rfl) (by kernel_rfl) (by kernel_rfl) (by kernel_rfl) (by kernel_rfl) ?_
   repeat (first
    | refine Ap (hl:=?_)
    | refine Af (hl:=?_)
    | refine AG (hl:=?_)
    | refine An (hl:=?_)
    | refine Ar (hl:=?_)
    | refine AL (hl:=?_)
    | refine Ah (hl:=?_)
    | refine AN (hl:=?_)
    | refine AM (hl:=?_)
    | refine AO (hl:=?_)
    | refine Au (hl:=?_)
    | refine Ay (hl:=?_)
    | refine Ao hA (hc:=F1) (hl:=?_)
    | refine Ao hA (hc:=M3) (hl:=?_))
   apply Ab.nil
   refine And.intro (by kernel_rfl) ?_
   refine ES (k:=900) (ss:= [(0,.one (AS j l)),(1,Ak (q:Nat)),(6,Ak (i:Nat))]) (bs:= []) (ns:=(nmC (q*(j+3)+2+2) (smR l i q*t))) hD ?_ ?_ ?_
   ·exact ⟨by omega,by omega⟩
   ·exact BI
   repeat (refine Du rfl ?_;(first|refine Af (hl:=?_)|refine Ap (hl:=?_)|refine An (hl:=?_));apply Ab.nil)
   refine Dv ?_
   repeat (first|refine Al ?_|refine Ae ?_|refine Ac rfl ?_|refine Ad rfl ?_|refine BO ?_|refine BP ?_|refine Ai ?_|refine Aj ?_)
   refine ⟨n-1,by omega,i+1,done++ [smR l i q*t],by omega,by omega,?_,?_⟩
   ·rw [hdone,List.range_succ,List.map_append];rfl
   ·exact BI
 ·have bi:=Cc (k:= .i64) (decide_eq_false (show ¬(i:Int)<(N:Int) by omega))
  have he:done=R:=by rw [hdone,hR,show i=N by omega]
  subst he
  repeat (first|refine Al ?_|refine Ae ?_|refine Ac rfl ?_|refine Ad rfl ?_|refine BO ?_|refine BP ?_|refine Ai ?_|refine Aj ?_)
  refine CX 900 hD (ss:= [(4,.one (AS (p*(j+3)+4) done))]) (bs:= []) ?_ ?_
  ·exact LN
  refine BH (And.intro (Or.inr rfl) ?_)
  exact C8
def PC (l cur:List Rat) (i:Nat):Prop:=cur.length=l.length∧ ∀q,q<l.length→cur[q]?=if q<i∨l.length≤q+i then l[l.length-1-q]? else l[q]?
theorem PC.start (l:List Rat):PC l l 0:=⟨rfl,fun q hq=>by rw [if_neg (by omega)]⟩
theorem PC.step {l cur:List Rat} {i j:Nat} {x y:Rat} (h:PC l cur i) (hj:j+i+1=l.length) (hij:i<j) (hx:cur[i]?=some x) (hy:cur[j]?=some y):PC l ((cur.set i y).set j x) (i+1):=by
 refine ⟨by rw [List.length_set,List.length_set];exact h.1,fun q hq=>?_⟩
 have e1:=h.2 i (by omega)
 rw [if_neg (by omega),hx] at e1
 have e2:=h.2 j (by omega)
 rw [if_neg (by omega),hy] at e2
 by_cases hqj:q=j
 ·subst hqj
  rw [List.getElem?_set_self (by rw [List.length_set,h.1];omega),if_pos (by omega),show l.length-1-q=i by omega,←e1]
 ·rw [List.getElem?_set_ne (Ne.symm hqj)]
  by_cases hqi:q=i
  ·subst hqi
   rw [List.getElem?_set_self (by rw [h.1];omega),if_pos (by omega),show l.length-1-q=j by omega,←e2]
  ·rw [List.getElem?_set_ne (Ne.symm hqi),h.2 q hq]
   by_cases hc:q<i∨l.length≤q+i
   ·rw [if_pos hc,if_pos (by omega)]
   ·rw [if_neg hc,if_neg (by omega)]
theorem PC.done {l cur:List Rat} {i:Nat} (h:PC l cur i) (hi:l.length≤2*i+1):cur=l.reverse:=by
 refine List.ext_getElem? fun q=>?_
 by_cases hq:q<l.length
 ·rw [h.2 q hq,List.getElem?_reverse hq]
  by_cases hc:q<i∨l.length≤q+i
  ·rw [if_pos hc]
  ·rw [if_neg hc,show l.length-1-q=q by omega]
 ·rw [List.getElem?_eq_none (by rw [h.1];omega),List.getElem?_eq_none (by simp;omega)]
end Go.Proofs.YtkmalkcgkcpcmaaGreatDoor
