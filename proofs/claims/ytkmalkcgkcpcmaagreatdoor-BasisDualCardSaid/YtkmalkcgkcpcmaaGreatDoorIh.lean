/-
  Several texts in one: Zch, Zci, Zck.
-/
import Derived.Test.YtkmalkcgkcpcmaaGreatDoorIf
import Derived.Test.YtkmalkcgkcpcmaaGreatDoorZdd
import Derived.Test.YtkmalkcgkcpcmaaGreatDoorIb
import Derived.Test.YtkmalkcgkcpcmaaGreatDoorGs
import Derived.Test.YtkmalkcgkcpcmaaGreatDoorIg
namespace Go.Proofs.YtkmalkcgkcpcmaaGreatDoor
open Nat renaming le_refl→Yi
open List renaming replicate→Yj
open Go.RowKit
set_option linter.unusedVariables false
set_option linter.unusedSimpArgs false
set_option maxRecDepth 20000
set_option maxHeartbeats 1000000
theorem Kns.hd {l:List Rat} {p e:Nat} {t0 u:Rat} {mid:List (Rat×Nat)} (h:Kns l p t0 u mid) (he:p≤e) (he2:e+p+1<l.length) (hlt:l.getD e 0<l.getD (e+1) 0): ∀s j,s<p→j<p-s→kn l p e (p+j)-kn l p e (s+j)≠0:=fun s j hs hj=>by
 have:=h.near he he2 hlt (a:=e+1-p+(s+j)) (b:=e+1-p+(p+j)) (by omega) (by omega) (by omega)
 show l.getD (e+1-p+(p+j)) 0-l.getD (e+1-p+(s+j)) 0≠0
 grind
def nbP (l:List Int) (n:Nat):Nat→Nat
 | 0=>n
 | i+1=>(Gp l (nbP l n i)).2
theorem TA {l:List Int} {n:Nat} (h:n≤l.length): ∀ {i:Nat},nbP l n i≤l.length
 | 0=>h
 | i+1=>Vy l _ (TA h (i:=i))
def EJ (l:List Int):Nat:=1+(nxt l 0 4).1.toNat
def JY (l:List Int):List Rat:=knR l (EJ l) 5 (nxt l 0 4).2
def Nk (l:List Int):Nat:=(knS l (EJ l) 5 (nxt l 0 4).2).2.2
def RD (l:List Int):List Rat:=tab ((JY l).length-EJ l-1) fun q=>(Gp l (nbP l (Nk l) q)).1
theorem II (l:List Int):1≤EJ l∧EJ l≤4:=by
 obtain ⟨x1,x2,_⟩:=Ci l 0 (m:=4) (by decide)
 unfold EJ
 omega
theorem VA (l:List Int):Nk l≤l.length:=by
 unfold Nk knS
 refine TI ?_
 obtain ⟨_,_,x3⟩:=Ci l 0 (m:=4) (by decide)
 obtain ⟨_,_,y3⟩:=Ci l (nxt l 0 4).2 (m:=4) (by decide)
 obtain ⟨_,_,z3⟩:=Ci l (nxt l (nxt l 0 4).2 4).2 (m:=((5+1:Nat):Int)) (by decide)
 exact z3 (y3 (x3 (Nat.zero_le _)))
theorem Nl (l:List Int): ∃t0 u mid,Kns (JY l) (EJ l) t0 u mid:=by
 obtain ⟨t0,u,mid,h1,h2,h3⟩:=Pe (l:=l) (p:=EJ l) (inner:=5) (n:=(nxt l 0 4).2) (II l).1
 exact ⟨t0,u,mid,h1,h2,h3⟩
theorem Jk (l:List Int):2*EJ l+2≤(JY l).length∧(JY l).length≤2*EJ l+2+5:=VD
theorem Q9 {l:List Int} {n k:Nat} (hb: ∀x∈l,-9223372036854775808≤x∧x<9223372036854775808) (hl:l.length≤1000000) (hn:n≤l.length):
  Cd Tryz.prog Amb 83 [.one (.ptr k 0)] [(k,B7 l n,B7 l (Gp l n).2)] (nm 2 (Gp l n).1):=by
 have key:Cd Tryz.prog Amb 83 [.one (.ptr 900 0)] [(900,B7 l n,B7 l (Gp l n).2)] (nm 2 (Gp l n).1):=by
  have N1:=Ur (k:=900) hb hl hn
  apply A0 Tryz.func83 rfl rfl rfl rfl rfl
  case hin=>simp [inA,inC]
  intro W0 base D μ0 hA hD
  repeat (first
   | refine Al ?_|refine Ae ?_|refine Ac rfl ?_|refine Ad rfl ?_
   | (refine Am (by kernel_rfl) ?_
      repeat (first
       | refine Ap (hl:=?_)
       | refine An (hl:=?_)
       | refine Ar (hl:=?_)
       | refine Ct hA (hc:=N1) (hl:=?_))
      apply Ab.nil)
   | refine Ai ?_|refine Aj ?_)
  refine BH (And.intro (Or.inr rfl) ?_)
  exact Hv
 exact key.at1 k rfl rfl
theorem Qp {l:List Int} (hb: ∀x∈l,-9223372036854775808≤x∧x<9223372036854775808) (hl:l.length≤1000000):
  Ctr Tryz.prog Amb 36 [.one (.ints l)] (.tup [.one (AS 45 (JY l)),Ak (EJ l:Nat),.one (AS 2 (RD l))]):=by
 obtain ⟨x1,x2,x3⟩:=Ci l 0 (m:=4) (by decide)
 have hpb:=II l
 obtain ⟨k1,k2⟩:=Jk l
 have N1:=DC (k:=11) (n:=0) (m:=4) hb hl (Nat.zero_le _) (by decide) (by decide)
 have w1:=A5 (k:= .i64) (show (IntKind.i64).wrap (1+(nxt l 0 4).1)=(EJ l:Int) by
  have e:(1+(nxt l 0 4).1)=(EJ l:Int):=by unfold EJ;omega
  rw [e];exact IntWalk.i64_in _ (by omega))
 have K1:=VX (k:=11) (n:=(nxt l 0 4).2) (p:=EJ l) (inner:=5) hb hl (x3 (Nat.zero_le _)) (by omega) (by omega)
 have NB: ∀q,Cd Tryz.prog Amb 83 [.one (.ptr 11 0)] [(11,B7 l (nbP l (Nk l) q),B7 l (nbP l (Nk l) (q+1)))] (nm 2 (Gp l (nbP l (Nk l) q)).1):=fun q=>Q9 hb hl (TA (VA l))
 have hK:knR l (EJ l) 5 (nxt l 0 4).2=JY l:=rfl
 have hN:(knS l (EJ l) 5 (nxt l 0 4).2).2.2=nbP l (Nk l) 0:=rfl
 rw [hK,hN] at K1
 unfold RD
 generalize JY l=K at*
 generalize EJ l=p at*
 generalize Nk l=n0 at*
 clear hK hN
 obtain ⟨g,hg⟩: ∃g:Nat→Rat,g=fun q=>(Gp l (nbP l n0 q)).1:=⟨_,rfl⟩
 have NB': ∀q,Cd Tryz.prog Amb 83 [.one (.ptr 11 0)] [(11,B7 l (nbP l n0 q),B7 l (nbP l n0 (q+1)))] (nm 2 (g q)):=fun q=>by rw [hg];exact NB q
 rw [←hg]
 clear NB hg
 obtain ⟨T,hT⟩: ∃T,T=tab (K.length-p-1) g:=⟨_,rfl⟩
 rw [←hT]
 refine A0 Tryz.func36 rfl rfl rfl rfl rfl rfl ?_
 intro W0 base D μ0 hA hD
 repeat (first
  | refine Al ?_|refine Ae ?_|refine Ac rfl ?_|refine Ad rfl ?_
  | ((first|refine Am (by kernel_rfl) ?_|refine Av (by kernel_rfl) (by kernel_rfl) (by kernel_rfl) ?_)
     repeat (first
      | refine Ap (hl:=?_)
      | refine Af (hl:=?_)
      | refine AL (hl:=?_)
      | refine AN (hl:=?_)
      | refine AM (hl:=?_)
      | refine AO (hl:=?_)
      | refine AE (hl:=?_)
      | refine Ay (hl:=?_)
      | refine PL hA (hc:=Xi l) (hl:=?_)
      | refine Ct hA (hc:=N1) (hl:=?_)
      | refine Ct hA (hc:=K1) (hl:=?_))
     apply Ab.nil;try refine And.intro (by kernel_rfl) ?_)
  | refine Ai ?_|refine Aj ?_)
 refine CE (fun m σ=> ∃(i:Nat) (done:List Rat),m=K.length-p-1-i∧i≤K.length-p-1∧done=tab i g∧Wk ⟨W0,base,D,35,[],μ0⟩ σ [(5,.one (.ptr 11 0)),(6,Ak (p:Nat)),(7,.one (AS 45 K)),(8,.one (.gl 900 done.length 3)),(9,Ak (i:Nat))] [(11,B7 l (nbP l n0 i)),(900,AA (nmD 2) done)]) (n:=K.length-p-1) ⟨0,[],by omega,by omega,rfl,?_⟩ ?_
 ·exact BI
 clear N1 w1 K1
 intro m σ hI
 obtain ⟨i,done,hm,hi0,hdone,hw⟩:=hI
 refine Ch hw ?_
 clear hw
 have hdl:done.length=i:=by rw [hdone];simp
 have s1:=Cj (k:= .i64) (show (IntKind.i64).wrap ((K.length:Int)-(p:Int))=((K.length-p:Nat):Int) by rw [show ((K.length:Int)-(p:Int))=((K.length-p:Nat):Int) by omega];exact IntWalk.i64_in _ (by omega))
 have s2:=Cj (k:= .i64) (show (IntKind.i64).wrap (((K.length-p:Nat):Int)-1)=((K.length-p-1:Nat):Int) by rw [show ((K.length-p:Nat):Int)-1=((K.length-p-1:Nat):Int) by omega];exact IntWalk.i64_in _ (by omega))
 by_cases hi:i<K.length-p-1
 ·have bi:=Cc (k:= .i64) (decide_eq_true (show ((i:Nat):Int)<((K.length-p-1:Nat):Int) by omega))
  have hin:=A5 (k:= .i64) (show (IntKind.i64).wrap ((i:Int)+1)=((i+1:Nat):Int) from IntWalk.i64_in _ (by omega))
  have B1:=NB' i
  have ht:done++ [g i]=tab (i+1) g:=by rw [hdone];exact Mq
  generalize g i=x at B1 ht
  repeat (first
   | refine Al ?_|refine Ae ?_|refine Ac rfl ?_|refine Ad rfl ?_
   | ((first|refine Am (by kernel_rfl) ?_|refine Av (by kernel_rfl) (by kernel_rfl) (by kernel_rfl) ?_)
      repeat (first
       | refine Ap (hl:=?_)
       | refine Af (hl:=?_)
       | refine AL (hl:=?_)
       | refine AN (hl:=?_)
       | refine AM (hl:=?_)
       | refine AO (hl:=?_)
       | refine AE (hl:=?_)
       | refine Ay (hl:=?_))
      apply Ab.nil;try refine And.intro (by kernel_rfl) ?_)
   | refine Ai ?_|refine Aj ?_)
  try refine Al ?_
  refine CW 4 (by simp only [List.take_succ_cons,List.take_zero,List.drop_succ_cons,List.drop_zero];exact ⟨rfl,rfl⟩) (by kernel_rfl) ?_
  repeat (first
   | refine Ap (hl:=?_)
   | refine Af (hl:=?_)
   | refine AL (hl:=?_)
   | refine AN (hl:=?_)
   | refine AM (hl:=?_)
   | refine AO (hl:=?_)
   | refine AE (hl:=?_)
   | refine Ay (hl:=?_)
   | refine Ct hA (hc:=B1) (hl:=?_))
  apply Ab.nil
  refine ES (k:=900) (ss:= [(5,.one (.ptr 11 0)),(6,Ak (p:Nat)),(7,.one (AS 45 K)),(9,Ak (i:Nat))]) (bs:= [(11,B7 l (nbP l n0 (i+1)))]) (ns:=(nmC 2 x)) hD ?_ ?_ ?_
  ·exact ⟨by omega,by omega⟩
  ·exact BI
  repeat (refine Du rfl ?_;(first|refine Af (hl:=?_)|refine Ap (hl:=?_)|refine An (hl:=?_));apply Ab.nil)
  refine Dv ?_
  repeat (first
   | refine Al ?_|refine Ae ?_|refine Ac rfl ?_|refine Ad rfl ?_
   | ((first|refine Am (by kernel_rfl) ?_|refine Av (by kernel_rfl) (by kernel_rfl) (by kernel_rfl) ?_)
      repeat (first
       | refine Ap (hl:=?_)
       | refine Af (hl:=?_)
       | refine AL (hl:=?_)
       | refine AN (hl:=?_)
       | refine AM (hl:=?_)
       | refine AO (hl:=?_)
       | refine AE (hl:=?_)
       | refine Ay (hl:=?_))
      apply Ab.nil;try refine And.intro (by kernel_rfl) ?_)
   | refine Ai ?_|refine Aj ?_)
  refine ⟨m-1,by omega,i+1,done++ [x],by omega,by omega,ht,?_⟩
  exact BI
 ·have bi:=Cc (k:= .i64) (decide_eq_false (show ¬((i:Nat):Int)<((K.length-p-1:Nat):Int) by omega))
  obtain rfl:i=K.length-p-1:=by omega
  rw [←hT] at hdone
  repeat (first
   | refine Al ?_|refine Ae ?_|refine Ac rfl ?_|refine Ad rfl ?_
   | ((first|refine Am (by kernel_rfl) ?_|refine Av (by kernel_rfl) (by kernel_rfl) (by kernel_rfl) ?_)
      repeat (first
       | refine Ap (hl:=?_)
       | refine Af (hl:=?_)
       | refine AL (hl:=?_)
       | refine AN (hl:=?_)
       | refine AM (hl:=?_)
       | refine AO (hl:=?_)
       | refine AE (hl:=?_)
       | refine Ay (hl:=?_))
      apply Ab.nil;try refine And.intro (by kernel_rfl) ?_)
   | refine Ai ?_|refine Aj ?_)
  refine CX 900 hD (ss:= [(2,.one (AS 45 K)),(3,Ak (p:Nat)),(4,.one (AS 2 done))]) (bs:= []) ?_ ?_
  ·exact LN
  subst hdone
  refine BH (And.intro (Or.inr rfl) ?_)
  exact Jy
theorem KF {j1 j2:Nat} {a b:Rat} {n:Int} (h1: -9223372036854775808≤n) (h2:n<9223372036854775808) (h3:j1≤10000) (h4:j2≤10000):Ctr Tryz.prog Amb 32 [.agg [.q a j1 0,.q a j1 1,.q a j1 2,.q b j2 0,.q b j2 1,.q b j2 2],.one (.v (.int .i64 n))] (nm (j1+(2+(j2+j1+3)+2)+3) (a+Eh n*(b-a))):=by
 have P1:=Xj h1 h2
 have S1:=XF (j:=j2) (k:=j1) (x:=b) (y:=a) (by omega) (by omega)
 have M1:=Wi (j:=2) (k:=j2+j1+3) (x:=Eh n) (y:=b-a) (by omega) (by omega)
 have A1:=I8 (j:=j1) (k:=2+(j2+j1+3)+2) (x:=a) (y:=Eh n*(b-a)) (by omega) (by omega)
 refine A0 Tryz.func32 rfl rfl rfl rfl rfl rfl ?_
 intro W0 base D μ0 hA hD
 repeat (first
  | refine Al ?_|refine Ae ?_|refine Ac rfl ?_|refine Ad rfl ?_
  | ((first|refine Am (by kernel_rfl) ?_|refine Av (by kernel_rfl) (by kernel_rfl) (by kernel_rfl) ?_)
     repeat (first
      | refine Ap (hl:=?_)
      | refine AG (hl:=?_)
      | refine DL (hl:=?_)
      | refine An (hl:=?_)
      | refine CY (hl:=?_)
      | refine Ar (hl:=?_)
      | refine Ao hA (hc:=P1) (hl:=?_)
      | refine Ao hA (hc:=S1) (hl:=?_)
      | refine Ao hA (hc:=M1) (hl:=?_)
      | refine Ao hA (hc:=A1) (hl:=?_))
     apply Ab.nil;try refine And.intro (by kernel_rfl) ?_)
  | refine Ai ?_|refine Aj ?_)
 refine BH (And.intro (Or.inr rfl) ?_)
 exact C8
def R7 (K:List Rat) (i:Int):Rat:=JZ K+Eh i*(Ft K-JZ K)
abbrev JX:Rat:=((1:Int):Rat)
abbrev G0:Rat:=((1:Int):Rat)/((2:Int):Rat)
abbrev kn6:List Rat:= [0,0,0,JX,JX,JX]
theorem VF:Kns kn6 2 0 JX []:=⟨rfl,fun a ha=>(by cases ha),⟨fun a ha=>by rw [List.mem_singleton.1 ha];decide+kernel,⟨fun a ha=>(by cases ha),trivial⟩⟩⟩
theorem UI:Ctr Tryz.prog Amb 35 [] (.one (.v (.bool true))):=by
 have I1:=MY (n:=1) rfl
 have F1:=FF (n:=1) (d:=2) rfl
 have hlt:kn6.getD 2 0<kn6.getD (2+1) 0:=by decide+kernel
 have hd:=VF.hd (e:=2) (by decide) (by decide) hlt
 have eI:ivR kn6 G0= [Ak ((2:Nat):Int),Ak 0]:=by
  have e1:ivI kn6 G0=2:=by decide+kernel
  have e2: ¬(ivI kn6 G0<0∨Ft kn6<G0):=by decide+kernel
  unfold ivR
  rw [if_neg e2,e1]
  rfl
 have V1:=J5 (j:=2) (jt:=2) (p:=2) (i:=2) (l:=kn6) (t:=G0) (by decide) (by decide) (by decide) (by decide) (by decide) (by decide) (by decide) hlt eI hd
 have B1:=Ee (j:=2) (jc:=2) (jt:=2) (p:=2) (i:=2) (l:=kn6) (c:= [0,0,JX]) (args:= [G0,JX]) (by decide) (by decide) (by decide) (by decide) (by decide) (by decide) (by decide) hlt (by decide) (by decide) hd
 have eb:Ep kn6 2 2 [0,0,JX] [G0,JX]=1/2:=by decide+kernel
 rw [eb] at B1
 obtain ⟨L,hL⟩: ∃L,L=tab (2+1) (dbV (kn kn6 2 2) 2 G0 2):=⟨_,rfl⟩
 rw [←hL] at V1
 have hx:L[(0:Int).toNat]?=some (1/4):=by rw [hL];decide+kernel
 have hy:L[(1:Int).toNat]?=some (1/2):=by rw [hL];decide+kernel
 have hl1:((L.length:Nat):Int)=3:=by rw [hL];rfl
 have b1:=JM (k:= .i64) (decide_eq_true hl1)
 have T1:=Ls (j:=gvt (2+1) (2+1) 2) (x:=1/4) (s:= { data:= #[49,47,52] }) (by decide) (by decide+kernel)
 have T2:=Ls (j:=gvt (2+1) (2+1) 2) (x:=1/2) (s:= { data:= #[49,47,50] }) (by decide) (by decide+kernel)
 have T3:=Ls (j:=gwt (2+1) (2+1) (2+1) 2) (x:=1/2) (s:= { data:= #[49,47,50] }) (by decide) (by decide+kernel)
 clear hL eI hd hlt eb
 generalize gvt (2+1) (2+1) 2=G at*
 generalize gwt (2+1) (2+1) (2+1) 2=H at*
 refine A0 Tryz.func35 rfl rfl rfl rfl rfl rfl ?_
 intro W0 base D μ0 hA hD
 repeat (first
  | refine Al ?_|refine Ae ?_|refine Ac rfl ?_|refine Ad rfl ?_
  | ((first|refine Am (by kernel_rfl) ?_|refine Av (by kernel_rfl) (by kernel_rfl) (by kernel_rfl) ?_)
     repeat (first
      | refine FO (f:=nmD 2) (la:=kn6) (hl:=?_)
      | refine FO (f:=nmD 2) (la:= [0,0,JX]) (hl:=?_)
      | refine FO (f:=nmD 2) (la:= [G0,JX]) (hl:=?_)
      | refine AW (hl:=?_)
      | refine Ap (hl:=?_)
      | refine Af (hl:=?_)
      | refine AG (hl:=?_)
      | refine An (hl:=?_)
      | refine Ar (hl:=?_)
      | refine AX (hl:=?_)
      | refine AY (hl:=?_)
      | refine At (hl:=?_)
      | refine AL (hl:=?_)
      | refine Ah (hl:=?_)
      | refine AJ (hl:=?_)
      | refine AK (hl:=?_)
      | refine AF (hl:=?_)
      | refine AN (hl:=?_)
      | refine AM (hl:=?_)
      | refine AO (hl:=?_)
      | refine AE (hl:=?_)
      | refine Au (hl:=?_)
      | refine Ay (hl:=?_)
      | refine Ao hA (hc:=I1) (hl:=?_)
      | refine Ao hA (hc:=F1) (hl:=?_)
      | refine Ao hA (hc:=V1) (hl:=?_)
      | refine Ao hA (hc:=B1) (hl:=?_))
     apply Ab.nil;try refine And.intro (by kernel_rfl) ?_)
  | refine Ai ?_|refine Aj ?_)
 refine Ch (ss:= [(3,Ak 0),(4,.one (AS G L)),(5,Ak 0),(6,.one (.ptr 6 0)),(7,Ak 0)]) (bs:= [(6,nmC H (1/2))]) ?_ ?_
 ·exact BI
 repeat (first
  | refine Al ?_|refine Ae ?_|refine Ac rfl ?_|refine Ad rfl ?_
  | ((first|refine Am (by kernel_rfl) ?_|refine Av (by kernel_rfl) (by kernel_rfl) (by kernel_rfl) ?_)
     repeat (first
      | refine AW (hl:=?_)
      | refine Ap (hl:=?_)
      | refine Af (hl:=?_)
      | refine AG (hl:=?_)
      | refine An (hl:=?_)
      | refine Ar (hl:=?_)
      | refine AX (hl:=?_)
      | refine AY (hl:=?_)
      | refine At (hl:=?_)
      | refine AL (hl:=?_)
      | refine Ah (hl:=?_)
      | refine AJ (hl:=?_)
      | refine AK (hl:=?_)
      | refine AF (hl:=?_)
      | refine AN (hl:=?_)
      | refine AM (hl:=?_)
      | refine AO (hl:=?_)
      | refine AE (hl:=?_)
      | refine Au (hl:=?_)
      | refine Ay (hl:=?_)
      | refine Ao hA (hc:=T1) (hl:=?_)
      | refine Ao hA (hc:=T2) (hl:=?_)
      | refine Ao hA (hc:=T3) (hl:=?_)
      | refine CT (i:=0) hx (by omega) (hl:=?_)
      | refine CT (i:=1) hy (by omega) (hl:=?_)
      | refine WG (hl:=?_))
     apply Ab.nil;try refine And.intro (by kernel_rfl) ?_)
  | refine Ai ?_|refine Aj ?_)
 refine BH (And.intro (Or.inr rfl) ?_)
 exact C8
theorem G3 {jn jt J jn' jt' J':Nat} (h1:jn≤jn') (h2:jt≤jt') (h3:J≤J'): ∀s,gwt jn jt J s≤gwt jn' jt' J' s
 | 0=>h3
 | s+1=>by
   have:=G3 h1 h2 h3 s
   show 3*gwt jn jt J s+(3*jn+jt+2)+10≤3*gwt jn' jt' J' s+(3*jn'+jt'+2)+10
   omega
section
variable {K C X:List Rat} {p j jc jt:Nat} {t0 u t:Rat} {mid:List (Rat×Nat)}
theorem Kns.ivR_in (hk:Kns K p t0 u mid) (h1:t0≤t) (h2:t≤u): ∃e:Nat,PD K p t e∧ivR K t= [Ak (e:Nat),Ak 0]:=by
 obtain ⟨e,he,hi⟩:=hk.iv h1 h2
 refine ⟨e,he,?_⟩
 unfold ivR
 rw [hi,hk.lst,if_neg]
 rintro (h|h)
 ·omega
 ·exact Rat.not_lt.2 h2 h
end
theorem WW {y:Rat} {c a j:Nat} {g1 h:List (Rat×Nat)} (hi:Gt (g1++(y,c)::h)) (ha:a<c) (hj:BD g1+c≤j) (hj2:j<BD (g1++(y,c)::h)):(rep (g1++(y,c)::h)).getD (BD g1+a) 0<(rep (g1++(y,c)::h)).getD j 0:=by
 rw [Eg ha]
 have h2:j-BD g1-c<BD h:=by
  rw [CG] at hj2
  have:BD ((y,c)::h)=c+BD h:=rfl
  omega
 obtain ⟨g2,z,d,h3,b,he,hb,hjb⟩:=Fy h2
 have e:g1++(y,c)::h=(g1++(y,c)::g2)++(z,d)::h3:=by rw [he,List.append_assoc];rfl
 have hjj:j=BD (g1++(y,c)::g2)+b:=by
  rw [CG]
  have:BD ((y,c)::g2)=c+BD g2:=rfl
  omega
 rw [e,hjj,Eg hb]
 rw [he] at hi
 exact (GZ (g:=g1) hi).2.1 (z,d) (List.mem_append.2 (.inr List.mem_cons_self))
section
variable {K C:List Rat} {p i j n e:Nat} {t0 u t:Rat} {mid:List (Rat×Nat)}
theorem Kns.mult (hk:Kns K p t0 u mid) (hij:i≤j) (hj:j<K.length) (he:K.getD i 0=K.getD j 0):j-i≤p∧(t0<K.getD i 0→K.getD i 0<u→j-i+1≤p):=by
 have hlen:K.length=BD ((t0,p+1)::(mid++ [(u,p+1)])):=by rw [hk.eq,DX]
 obtain ⟨g1,y,c,h,a,hg,ha,hia⟩:=Fy (g:=(t0,p+1)::(mid++ [(u,p+1)])) (i:=i) (by omega)
 have hy:K.getD i 0=y:=by rw [hk.eq,hg,hia];exact Eg ha
 have hjc:j<BD g1+c:=by
  rcases Nat.lt_or_ge j (BD g1+c) with h1|h1
  ·exact h1
  ·exfalso
   have hin:=hk.inc
   rw [hg] at hin hlen
   have:=WW hin ha h1 (by omega)
   rw [←hia,←hg,←hk.eq,he] at this
   exact Rat.lt_irrefl this
 have hmem:(y,c)∈(t0,p+1)::(mid++ [(u,p+1)]):=by rw [hg];simp
 have hc:c≤p+1∧(t0<y→y<u→c≤p):=by
  rcases List.mem_cons.1 hmem with h1|h1
  ·cases h1;exact ⟨Yi _,fun h2=>absurd h2 Rat.lt_irrefl⟩
  ·rcases List.mem_append.1 h1 with h2|h2
   ·exact ⟨Nat.le_trans (hk.ok _ h2).2 (Nat.le_succ p),fun _ _=>(hk.ok _ h2).2⟩
   ·cases List.mem_singleton.1 h2;exact ⟨Yi _,fun _ h3=>absurd h3 Rat.lt_irrefl⟩
 refine ⟨by omega,fun h1 h2=>?_⟩
 rw [hy] at h1 h2
 have:=hc.2 h1 h2
 omega
theorem Kns.in_mid (hk:Kns K p t0 u mid) (hi:i+1<K.length) (hne:K.getD i 0≠K.getD (i+1) 0):p≤i∧i+p+1<K.length∧K.getD i 0<K.getD (i+1) 0:=by
 have h1:p≤i:=by
  rcases Nat.lt_or_ge i p with h|h
  ·exact absurd (by rw [hk.first (by omega),hk.first (by omega)]) hne
  ·exact h
 have h2:i+p+1<K.length:=by
  rcases Nat.lt_or_ge (i+p+1) K.length with h|h
  ·exact h
  ·exact absurd (by rw [hk.last (by omega) (by omega),hk.last (by omega) hi]) hne
 have h3:=hk.mono (i:=i) (j:=i+1) (by omega) hi
 exact ⟨h1,h2,by grind⟩
def pcR (K:List Rat) (n:Nat):Nat→Int
 | 0=> -1
 | m+1=>if K.getD (n+m) 0=K.getD (n+m+1) 0 then pcR K n m else ((n+m:Nat):Int)
theorem Kb: ∀ {m:Nat},(pcR K n m= -1∧ ∀x,x≤m→K.getD n 0=K.getD (n+x) 0)∨ ∃i:Nat,pcR K n m=(i:Int)∧n≤i∧i<n+m∧K.getD i 0≠K.getD (i+1) 0
 | 0=> .inl ⟨rfl,fun x hx=>by rw [show x=0 by omega,Nat.add_zero]⟩
 | m+1=>by
   unfold pcR
   by_cases h:K.getD (n+m) 0=K.getD (n+m+1) 0
   ·rw [if_pos h]
    rcases Kb (m:=m) with ⟨h1,h2⟩|⟨i,h1,h2,h3,h4⟩
    ·refine .inl ⟨h1,fun x hx=>?_⟩
     by_cases hxm:x≤m
     ·exact h2 x hxm
     ·rw [show n+x=n+m+1 by omega,←h]
      exact h2 m (Yi m)
    ·exact .inr ⟨i,h1,h2,by omega,h4⟩
   ·rw [if_neg h]
    exact .inr ⟨n+m,rfl,by omega,by omega,h⟩
theorem Ts (hk:Kns K p t0 u mid) (hn:n+p+1<K.length): ∃i:Nat,pcR K n (p+1)=(i:Int)∧n≤i∧i≤n+p∧K.getD i 0≠K.getD (i+1) 0:=by
 rcases Kb (K:=K) (n:=n) (m:=p+1) with ⟨_,h2⟩|⟨i,h1,h2,h3,h4⟩
 ·exfalso
  have:=(hk.mult (i:=n) (j:=n+(p+1)) (by omega) (by omega) (h2 _ (Yi _))).1
  omega
 ·exact ⟨i,h1,h2,by omega,h4⟩
theorem NX {x y:List Rat} (hp:x.Perm y) (hx:x.length=p) (hd: ∀s j,s<p→j<p-s→kn K p i (p+j)-kn K p i (s+j)≠0):Ep K p i C x=Ep K p i C y:=
 Uo (n:=kn K p i) (c:=fun x=>C.getD (i-p+x) 0) hp hd (h:= []) hx
theorem UD (hd: ∀s j,s<p→j<p-s→kn K p i (p+j)-kn K p i (s+j)≠0) (hpi:p≤i) (h1:n≤i) (h2:i≤n+p) (hn:n+p+1<K.length):Ep K p i C ((K.take (n+p+1)).drop (n+1))=C.getD n 0:=by
 obtain ⟨A,hA⟩: ∃A,A=(K.take (n+p+1)).drop (n+1):=⟨_,rfl⟩
 have hAl:A.length=p:=by rw [hA,List.length_drop,List.length_take];omega
 have hAg: ∀s,s<p→nth A s=K.getD (n+1+s) 0:=fun s hs=>by rw [hA];exact M7 (by omega)
 obtain ⟨q,hq⟩: ∃q,q=n+p-i:=⟨_,rfl⟩
 have hqp:q≤p:=by omega
 have hperm:A.Perm ((A.drop (p-q)).reverse++A.take (p-q)):=by
  have e:A=A.take (p-q)++A.drop (p-q):=(List.take_append_drop _ _).symm
  have k1:(A.take (p-q)++A.drop (p-q)).Perm (A.drop (p-q)++A.take (p-q)):=List.perm_append_comm
  have k2:(A.drop (p-q)++A.take (p-q)).Perm ((A.drop (p-q)).reverse++A.take (p-q)):=List.Perm.append_right _ (List.reverse_perm _).symm
  have k3:=k1.trans k2
  rwa [List.take_append_drop] at k3
 rw [←hA,NX hperm hAl hd]
 have hrl:(A.drop (p-q)).reverse.length=q:=by rw [List.length_reverse,List.length_drop];omega
 have h3:=Uq (n:=kn K p i) (a:=nth ((A.drop (p-q)).reverse++A.take (p-q))) (c:=fun x=>C.getD (i-p+x) 0) (q:=q) hd hqp (fun s hs=>?_) (fun s hs hsp=>?_)
 ·show dbW _ p _ _ p 0=_
  rw [h3,show i-p+q=n by omega]
 ·show ((A.drop (p-q)).reverse++A.take (p-q)).getD s 0=K.getD (i+1-p+(p+(q-1-s))) 0
  have h4:=hAg (p-q+(q-1-s)) (by omega)
  rw [show n+1+(p-q+(q-1-s))=i+1-p+(p+(q-1-s)) by omega] at h4
  rw [←h4,List.getD_eq_getElem?_getD,List.getElem?_append_left (by omega),List.getElem?_reverse (by rw [List.length_drop];omega),List.getElem?_drop,List.length_drop,←List.getD_eq_getElem?_getD,show p-q+(A.length-(p-q)-1-s)=p-q+(q-1-s) by omega]
 ·show ((A.drop (p-q)).reverse++A.take (p-q)).getD s 0=K.getD (i+1-p+s) 0
  have h4:=hAg (s-q) (by omega)
  rw [show n+1+(s-q)=i+1-p+s by omega] at h4
  rw [←h4,List.getD_eq_getElem?_getD,List.getElem?_append_right (by omega),hrl,List.getElem?_take,if_pos (by omega),←List.getD_eq_getElem?_getD]
theorem P5 {q:Nat} (hq:q<p):nth (Yj p t) q=t:=by
 show (Yj p t).getD q 0=t
 rw [List.getD_eq_getElem?_getD,List.getElem?_replicate,if_pos hq]
 rfl
theorem RY (hk:Kns K p t0 u mid) (hi:p≤i) (hi2:i+p+1<K.length) (hlt:K.getD i 0<K.getD (i+1) 0) (h1:K.getD i 0≤t) (h2:t≤K.getD (i+1) 0) (he:PD K p t e):Ep K p i C (Yj p t)=Ep K p e C (Yj p t):=by
 have hie:i≤e:=by
  rcases Nat.lt_or_ge e i with h|h
  ·have:=he.max hk h hi2
   exact absurd this (Rat.not_lt.2 h1)
  ·exact h
 by_cases h:i=e
 ·rw [h]
 ·have hl:=he.low
  have hh:=he.high
  have a1:=hk.mono (i:=i+1) (j:=e) (by omega) (by omega)
  have a2:=he.begins
  have a3:=he.lt
  have et:K.getD (i+1) 0=t:=by grind
  have ee:K.getD (i+1) 0=K.getD e 0:=by grind
  have b1:=hk.mono (i:=0) (j:=i) (by omega) (by omega)
  have b2:=hk.mono (i:=e+1) (j:=K.length-1) (by omega) (by omega)
  rw [hk.first (Nat.zero_le p)] at b1
  rw [hk.last (i:=K.length-1) (by omega) (by omega)] at b2
  have hm:=(hk.mult (i:=i+1) (j:=e) (by omega) (by omega) ee).2 (by grind) (by grind)
  have hd:=hk.hd hi hi2 hlt
  have c1:Ep K p i C (Yj p t)=dbW (kn K p i) p (fun _=>t) (fun x=>C.getD (i-p+x) 0) p 0:=DB (fun q hq=>P5 hq) fun _ _ _=>rfl
  have c2:Ep K p e C (Yj p t)=dbW (kn K p e) p (fun _=>t) (fun x=>C.getD (e-p+x) 0) p 0:=DB (fun q hq=>P5 hq) fun _ _ _=>rfl
  rw [c1,c2]
  refine Up (m:=e-i) hd (by omega) (fun j hj=>?_) (fun x=>?_) (fun x hx=>?_)
  ·show K.getD (i+1-p+(p+j)) 0=t
   have d1:=hk.mono (i:=i+1) (j:=i+1-p+(p+j)) (by omega) (by omega)
   have d2:=hk.mono (i:=i+1-p+(p+j)) (j:=e) (by omega) (by omega)
   grind
  ·show K.getD (e+1-p+x) 0=K.getD (i+1-p+(x+(e-i))) 0
   rw [show e+1-p+x=i+1-p+(x+(e-i)) by omega]
  ·show C.getD (e-p+x) 0=C.getD (i-p+(e-i+x)) 0
   rw [show e-p+x=i-p+(e-i+x) by omega]
theorem V3 {a b v:Rat} {T:List Rat} (hv:v+v=1) (hT:T.length+1=p):Ep K p i C (((a+b)*v)::T)=(Ep K p i C (a::T)+Ep K p i C (b::T))*v:=by
 subst hT
 unfold Ep
 refine LT (v:=v) rfl hv fun q hq=>?_
 obtain ⟨r,rfl⟩: ∃r,q=r+1:=⟨q-1,by omega⟩
 exact ⟨rfl,rfl⟩
end
theorem LV {jc jf p i:Nat} {K C X:List Rat} {f:Rat} {t0 u:Rat} {mid:List (Rat×Nat)} (hk:Kns K p t0 u mid) (hp:1≤p∧p≤6) (hl:K.length≤1000000) (hjc:jc≤100) (hjf:jf≤145) (hi:p≤i) (hi2:i+p+1<K.length) (hlt:K.getD i 0<K.getD (i+1) 0) (hc:C.length=K.length-p-1) (hX:X.length=p):
  Ctr Tryz.prog Amb 47 [.one (AS 45 K),Ak (p:Nat),.one (AS jc C),Ak (i:Nat),.one (AS 145 X),nm jf f] (nm (gwt (45+1) (145+1) (jc+1) p) (Ep K p i C (f::(X.take X.length).drop 1))):=by
 have hd:=hk.hd hi hi2 hlt
 have hJ:gwt (45+1) (145+1) (jc+1) p≤1000000:=Nat.le_trans (G3 (Yi _) (Yi _) (show jc+1≤101 by omega) p) (Nat.le_trans (Gx hp.2) (by decide))
 have hTl:((X.take X.length).drop 1).length=p-1:=by rw [List.length_drop,List.length_take];omega
 have B1:=Ee (j:=45) (jc:=jc) (jt:=145) (p:=p) (i:=i) (l:=K) (c:=C) (args:=f::(X.take X.length).drop 1) (by decide) (by decide) hJ hl hp hi hi2 hlt hc (by rw [List.length_cons];omega) hd
 generalize gwt (45+1) (145+1) (jc+1) p=G at*
 obtain ⟨T,hT⟩: ∃T,T=(X.take X.length).drop 1:=⟨_,rfl⟩
 rw [←hT] at hTl B1⊢
 refine A0 Tryz.func47 rfl rfl rfl rfl rfl rfl ?_
 intro W0 base D μ0 hA hD
 repeat (first
  | refine Al ?_|refine Ae ?_|refine Ac rfl ?_|refine Ad rfl ?_
  | ((first|refine Am (by kernel_rfl) ?_|refine Av (by kernel_rfl) (by kernel_rfl) (by kernel_rfl) ?_)
     repeat (first
      | refine Ap (hl:=?_)
      | refine Af (hl:=?_)
      | refine AG (hl:=?_)
      | refine An (hl:=?_)
      | refine CY (hl:=?_)
      | refine Ar (hl:=?_)
      | refine At (hl:=?_)
      | refine AN (hl:=?_)
      | refine AM (hl:=?_)
      | refine AO (hl:=?_)
      | refine Au (hl:=?_)
      | refine Ay (hl:=?_))
     apply Ab.nil;try refine And.intro (by kernel_rfl) ?_)
  | refine Ai ?_|refine Aj ?_)
 try refine Al ?_
 refine G9 4 (by simp only [List.take_succ_cons,List.take_zero,List.drop_succ_cons,List.drop_zero];exact ⟨rfl,rfl⟩) (by kernel_rfl) (by kernel_rfl) (by kernel_rfl) (by kernel_rfl) (by kernel_rfl) ?_
 repeat (first
  | refine Ap (hl:=?_)
  | refine Af (hl:=?_)
  | refine AG (hl:=?_)
  | refine An (hl:=?_)
  | refine CY (hl:=?_)
  | refine Ar (hl:=?_)
  | refine At (hl:=?_)
  | refine AN (hl:=?_)
  | refine AM (hl:=?_)
  | refine AO (hl:=?_)
  | refine Au (hl:=?_)
  | refine Ay (hl:=?_)
  | refine Dd hA (hc:=OLD) (hl:=?_)
  | refine Gg (la:=X) (f:=nmD 145) (a:=1) (b:=X.length) (by omega) (by omega) (.some rfl rfl) .none (hl:=?_))
 apply Ab.nil
 refine And.intro (by kernel_rfl) ?_
 rw [←hT]
 refine ES (k:=17) (f:=nmD jf) (la:= [f]) (ss:= [(0,.one (AS 45 K)),(1,Ak (p:Nat)),(2,.one (AS jc C)),(3,Ak (i:Nat)),(12,.one (.ptr 12 0))]) (bs:= [(12,nmC 2 0)]) (ns:=AA (nmD 145) T) (hns:=V6 inferInstance _ T) hD ?_ ?_ ?_
 ·exact ⟨by rw [hTl];simp;omega,by rw [hTl];simp;omega⟩
 ·exact BI
 repeat (refine Du rfl ?_;(first|refine Af (hl:=?_)|refine Ap (hl:=?_)|refine An (hl:=?_));apply Ab.nil)
 refine Dv ?_
 obtain ⟨Y,hY⟩: ∃Y,Y=f::T:=⟨_,rfl⟩
 rw [←hY] at B1⊢
 have hYl:([f]:List Rat).length+T.length=Y.length:=by rw [hY];simp;omega
 refine Ch (ss:= [(0,.one (AS 45 K)),(1,Ak (p:Nat)),(2,.one (AS jc C)),(3,Ak (i:Nat)),(12,.one (.ptr 12 0)),(13,.one (.gl 17 Y.length 3))]) (bs:= [(17,AA (nmD 145) Y),(12,nmC 2 0)]) ?_ ?_
 ·refine Es ?_ ?_ rfl
  ·repeat (first|exact AU|(refine List.forall_mem_cons.2 ⟨?_,?_⟩;focus (first|exact Ent.of_eq rfl|exact Ent.one' rfl (Aa.glLen hYl))))
  ·refine List.forall_mem_cons.2 ⟨?_,List.forall_mem_cons.2 ⟨DG rfl (EntL.of_eq rfl) rfl,AU⟩⟩
   have e:AA (nmD 145) Y=AA (nmD 145) [f]++AA (nmD 145) T:=by rw [hY];rfl
   rw [e]
   exact UE (os:=AA (nmD jf) [f]++AA (nmD 145) T) (FK (Hw hjf [f]) Ky) (fun c hc=>D3 (n:=3) (f:=nmD 145) inferInstance Y c (by rw [e];exact hc)) (by rw [←e];exact D4 _ Y)
 refine CX 17 hD (ss:= [(0,.one (AS 45 K)),(1,Ak (p:Nat)),(2,.one (AS jc C)),(3,Ak (i:Nat)),(12,.one (.ptr 12 0)),(13,.one (AS 145 Y))]) (bs:= [(12,nmC 2 0)]) ?_ ?_
 ·exact LN
 repeat (first
  | refine Al ?_|refine Ae ?_|refine Ac rfl ?_|refine Ad rfl ?_
  | ((first|refine Am (by kernel_rfl) ?_|refine Av (by kernel_rfl) (by kernel_rfl) (by kernel_rfl) ?_)
     repeat (first
      | refine Ap (hl:=?_)
      | refine Af (hl:=?_)
      | refine AG (hl:=?_)
      | refine An (hl:=?_)
      | refine CY (hl:=?_)
      | refine Ar (hl:=?_)
      | refine At (hl:=?_)
      | refine AN (hl:=?_)
      | refine AM (hl:=?_)
      | refine AO (hl:=?_)
      | refine Au (hl:=?_)
      | refine Ay (hl:=?_)
      | refine Ao hA (hc:=B1) (hl:=?_))
     apply Ab.nil;try refine And.intro (by kernel_rfl) ?_)
  | refine Ai ?_|refine Aj ?_)
 refine BH (And.intro (Or.inr rfl) ?_)
 exact C8
end Go.Proofs.YtkmalkcgkcpcmaaGreatDoor
