/-
  Several texts in one: Zch, Zci.
-/
import Derived.Test.YtkmalkcgkcpcmaaGreatDoorIf
import Derived.Test.YtkmalkcgkcpcmaaGreatDoorZdd
import Derived.Test.YtkmalkcgkcpcmaaGreatDoorIb
import Derived.Test.YtkmalkcgkcpcmaaGreatDoorGs
namespace Go.Proofs.YtkmalkcgkcpcmaaGreatDoor
open Nat renaming le_refl→Yh
open Go.RowKit
set_option linter.unusedVariables false
set_option linter.unusedSimpArgs false
set_option maxRecDepth 20000
set_option maxHeartbeats 1000000
theorem Ok {j jc jt p i:Nat} {l c args:List Rat} (hj:j≤1000000) (hjt:jt≤1000000) (hJ:gwt (j+1) (jt+1) (jc+1) p≤1000000) (hl:l.length≤1000000) (hp:1≤p∧p≤6) (hi:p≤i) (hi2:i+p+1<l.length) (hne:l.getD i 0≠l.getD (i+1) 0) (hc:c.length=l.length-p-1) (ha:args.length=p)
  (hd: ∀s j,s<p→j<p-s→kn l p i (p+j)-kn l p i (s+j)≠0):
  Ctr Tryz.prog Amb 43 [.one (Ax j l),Aj (p:Nat),.one (Ax jc c),Aj (i:Nat),.one (Ax jt args)] (.tup [nm (gwt (j+1) (jt+1) (jc+1) p) (J0 l p i c args),Aj 0]):=by
 have P1:=SC (j:=j) (jc:=jc) (jt:=jt) (p:=p) (i:=i) (l:=l) (c:=c) (args:=args) hj hjt hJ hl hp hi hi2 hc ha hd
 have Q1:=E0 (j:=j) (p:=p) hl (by omega)
 have n1:=CI (k:= .i64) (decide_eq_false (show ¬((c.length:Nat):Int)≠((l.length-p-1:Nat):Int) by omega))
 have n2:=CI (k:= .i64) (decide_eq_false (show ¬((args.length:Nat):Int)≠((p:Nat):Int) by omega))
 have b1:=BO (k:= .i64) (decide_eq_false (show ¬((i:Nat):Int)<((p:Nat):Int) by omega))
 have s1:=BB (k:= .i64) (show (IntKind.i64).wrap ((l.length:Int)-(p:Int))=((l.length-p:Nat):Int) by rw [show ((l.length:Int)-(p:Int))=((l.length-p:Nat):Int) by omega];exact IntWalk.i64_in _ (by omega))
 have s2:=BB (k:= .i64) (show (IntKind.i64).wrap (((l.length-p:Nat):Int)-1)=((l.length-p-1:Nat):Int) by rw [show ((l.length-p:Nat):Int)-1=((l.length-p-1:Nat):Int) by omega];exact IntWalk.i64_in _ (by omega))
 have b2:=FE (k:= .i64) (decide_eq_false (show ¬((i:Nat):Int)≥((l.length-p-1:Nat):Int) by omega))
 have a1:=AZ (k:= .i64) (show (IntKind.i64).wrap ((i:Int)+1)=((i+1:Nat):Int) from IntWalk.i64_in _ (by omega))
 obtain ⟨x,hx,hx'⟩:=BC (l:=l) (i:=i) (by omega)
 obtain ⟨y,hy,hy'⟩:=BC (l:=l) (i:=i+1) (by omega)
 rw [AS hx',AS hy'] at hne
 have S1:=Hr (j:=j) (k:=j) (x:=x) (y:=y)
 rw [decide_eq_false hne] at S1
 generalize gwt (j+1) (jt+1) (jc+1) p=G at*
 generalize J0 l p i c args=R at*
 refine As Tryz.func43 rfl rfl rfl rfl rfl rfl ?_
 intro W0 base D μ0 hA hD
 repeat (first|refine Ah ?_|refine Ad ?_|refine Ab rfl ?_|refine Ac rfl ?_|refine AT ?_|refine AU ?_|refine Ae ?_|refine Af ?_)
 refine AG (And.intro (Or.inr rfl) ?_)
 exact CW
theorem Mx {j jc jt p:Nat} {i:Int} {l c args:List Rat} (hl:l.length≤1000000) (hp:p+1≤l.length) (h:c.length≠l.length-p-1∨args.length≠p):
  Ctr Tryz.prog Amb 43 [.one (Ax j l),Aj (p:Nat),.one (Ax jc c),Aj i,.one (Ax jt args)] (.tup [nm 2 0,Aj 1]):=by
 have Q1:=E0 (j:=j) (p:=p) hl (by omega)
 by_cases h1:c.length=l.length-p-1
 ·have n1:=CI (k:= .i64) (decide_eq_false (show ¬((c.length:Nat):Int)≠((l.length-p-1:Nat):Int) by omega))
  have n2:=CI (k:= .i64) (decide_eq_true (show ((args.length:Nat):Int)≠((p:Nat):Int) by omega))
  refine As Tryz.func43 rfl rfl rfl rfl rfl rfl ?_
  intro W0 base D μ0 hA hD
  repeat (first|refine Ah ?_|refine Ad ?_|refine Ab rfl ?_|refine Ac rfl ?_|refine AT ?_|refine AU ?_|refine Ae ?_|refine Af ?_)
  refine AG (And.intro (Or.inr rfl) ?_)
  exact CW
 ·have n1:=CI (k:= .i64) (decide_eq_true (show ((c.length:Nat):Int)≠((l.length-p-1:Nat):Int) by omega))
  refine As Tryz.func43 rfl rfl rfl rfl rfl rfl ?_
  intro W0 base D μ0 hA hD
  repeat (first|refine Ah ?_|refine Ad ?_|refine Ab rfl ?_|refine Ac rfl ?_|refine AT ?_|refine AU ?_|refine Ae ?_|refine Af ?_)
  refine AG (And.intro (Or.inr rfl) ?_)
  exact CW
theorem Mw {j jc jt p:Nat} {i:Int} {l c args:List Rat} (hj:j≤1000000) (hl:l.length≤1000000) (hp:1≤p∧p≤6) (hlp:p+1≤l.length) (hc:c.length=l.length-p-1) (ha:args.length=p) (h:i<p∨(l.length-p-1:Nat)≤i∨l.getD i.toNat 0=l.getD (i.toNat+1) 0):
  Ctr Tryz.prog Amb 43 [.one (Ax j l),Aj (p:Nat),.one (Ax jc c),Aj i,.one (Ax jt args)] (.tup [nm 2 0,Aj 7]):=by
 have Q1:=E0 (j:=j) (p:=p) hl (by omega)
 have n1:=CI (k:= .i64) (decide_eq_false (show ¬((c.length:Nat):Int)≠((l.length-p-1:Nat):Int) by omega))
 have n2:=CI (k:= .i64) (decide_eq_false (show ¬((args.length:Nat):Int)≠((p:Nat):Int) by omega))
 by_cases h1:i<p
 ·have b1:=BO (k:= .i64) (decide_eq_true (show i<((p:Nat):Int) by omega))
  refine As Tryz.func43 rfl rfl rfl rfl rfl rfl ?_
  intro W0 base D μ0 hA hD
  repeat (first
   | refine Ah ?_|refine Ad ?_|refine Ab rfl ?_|refine Ac rfl ?_
   | ((first|refine Al (by kernel_rfl) ?_|refine Aq (by kernel_rfl) (by kernel_rfl) (by kernel_rfl) ?_)
      repeat (first
       | refine A8 (hl:=?_)
       | refine An (hl:=?_)
       | refine Ai (hl:=?_)
       | refine Az (hl:=?_)
       | refine Ao (hl:=?_)
       | refine At (hl:=?_)
       | refine A0 (hl:=?_)
       | refine A5 (hl:=?_)
       | refine AC (hl:=?_)
       | refine Ak (hl:=?_)
       | refine AM (hl:=?_)
       | refine AN (hl:=?_)
       | refine AJ (hl:=?_)
       | refine AI (hl:=?_)
       | refine AK (hl:=?_)
       | refine AH (hl:=?_)
       | refine Ar (hl:=?_)
       | refine Ap hA (hc:=Q1) (hl:=?_)
       | (apply FI;(case hg=>exact rfl)))
      apply Ag.nil;try refine And.intro (by kernel_rfl) ?_)
   | refine Ae ?_|refine Af ?_)
  refine AG (And.intro (Or.inr rfl) ?_)
  exact CW
 have b1:=BO (k:= .i64) (decide_eq_false (show ¬i<((p:Nat):Int) by omega))
 have s1:=BB (k:= .i64) (show (IntKind.i64).wrap ((l.length:Int)-(p:Int))=((l.length-p:Nat):Int) by rw [show ((l.length:Int)-(p:Int))=((l.length-p:Nat):Int) by omega];exact IntWalk.i64_in _ (by omega))
 have s2:=BB (k:= .i64) (show (IntKind.i64).wrap (((l.length-p:Nat):Int)-1)=((l.length-p-1:Nat):Int) by rw [show ((l.length-p:Nat):Int)-1=((l.length-p-1:Nat):Int) by omega];exact IntWalk.i64_in _ (by omega))
 by_cases h2:((l.length-p-1:Nat):Int)≤i
 ·have b2:=FE (k:= .i64) (decide_eq_true (show i≥((l.length-p-1:Nat):Int) by omega))
  refine As Tryz.func43 rfl rfl rfl rfl rfl rfl ?_
  intro W0 base D μ0 hA hD
  repeat (first
   | refine Ah ?_|refine Ad ?_|refine Ab rfl ?_|refine Ac rfl ?_
   | ((first|refine Al (by kernel_rfl) ?_|refine Aq (by kernel_rfl) (by kernel_rfl) (by kernel_rfl) ?_)
      repeat (first
       | refine A8 (hl:=?_)
       | refine An (hl:=?_)
       | refine Ai (hl:=?_)
       | refine Az (hl:=?_)
       | refine Ao (hl:=?_)
       | refine At (hl:=?_)
       | refine A0 (hl:=?_)
       | refine A5 (hl:=?_)
       | refine AC (hl:=?_)
       | refine Ak (hl:=?_)
       | refine AM (hl:=?_)
       | refine AN (hl:=?_)
       | refine AJ (hl:=?_)
       | refine AI (hl:=?_)
       | refine AK (hl:=?_)
       | refine AH (hl:=?_)
       | refine Ar (hl:=?_)
       | refine Ap hA (hc:=Q1) (hl:=?_)
       | (apply FI;(case hg=>exact rfl)))
      apply Ag.nil;try refine And.intro (by kernel_rfl) ?_)
   | refine Ae ?_|refine Af ?_)
  refine AG (And.intro (Or.inr rfl) ?_)
  exact CW
 have b2:=FE (k:= .i64) (decide_eq_false (show ¬i≥((l.length-p-1:Nat):Int) by omega))
 obtain ⟨i,rfl⟩: ∃q:Nat,i=(q:Int):=⟨i.toNat,by omega⟩
 have h3:l.getD i 0=l.getD (i+1) 0:=by
  rcases h with h|h|h
  ·omega
  ·omega
  ·exact h
 have a1:=AZ (k:= .i64) (show (IntKind.i64).wrap ((i:Int)+1)=((i+1:Nat):Int) from IntWalk.i64_in _ (by omega))
 obtain ⟨x,hx,hx'⟩:=BC (l:=l) (i:=i) (by omega)
 obtain ⟨y,hy,hy'⟩:=BC (l:=l) (i:=i+1) (by omega)
 rw [AS hx',AS hy'] at h3
 have S1:=Hr (j:=j) (k:=j) (x:=x) (y:=y)
 rw [decide_eq_true h3] at S1
 clear h3
 refine As Tryz.func43 rfl rfl rfl rfl rfl rfl ?_
 intro W0 base D μ0 hA hD
 repeat (first|refine Ah ?_|refine Ad ?_|refine Ab rfl ?_|refine Ac rfl ?_|refine AT ?_|refine AU ?_|refine Ae ?_|refine Af ?_)
 refine AG (And.intro (Or.inr rfl) ?_)
 exact CW
theorem Kns.hd {l:List Rat} {p e:Nat} {t0 u:Rat} {mid:List (Rat×Nat)} (h:Kns l p t0 u mid) (he:p≤e) (he2:e+p+1<l.length) (hlt:l.getD e 0<l.getD (e+1) 0): ∀s j,s<p→j<p-s→kn l p e (p+j)-kn l p e (s+j)≠0:=fun s j hs hj=>by
 have:=h.near he he2 hlt (a:=e+1-p+(s+j)) (b:=e+1-p+(p+j)) (by omega) (by omega) (by omega)
 show l.getD (e+1-p+(p+j)) 0-l.getD (e+1-p+(s+j)) 0≠0
 grind
def nbP (l:List Int) (n:Nat):Nat→Nat
 | 0=>n
 | i+1=>(FS l (nbP l n i)).2
theorem Pg {l:List Int} {n:Nat} (h:n≤l.length): ∀ {i:Nat},nbP l n i≤l.length
 | 0=>h
 | i+1=>Vu l _ (Pg h (i:=i))
def Dr (l:List Int):Nat:=1+(nxt l 0 4).1.toNat
def G7 (l:List Int):List Rat:=knR l (Dr l) 5 (nxt l 0 4).2
def Hx (l:List Int):Nat:=(knS l (Dr l) 5 (nxt l 0 4).2).2.2
def Ju (l:List Int):List Rat:=tab ((G7 l).length-Dr l-1) fun q=>(FS l (nbP l (Hx l) q)).1
theorem G5 (l:List Int):1≤Dr l∧Dr l≤4:=by
 obtain ⟨x1,x2,_⟩:=Co l 0 (m:=4) (by decide)
 unfold Dr
 omega
theorem Qg (l:List Int):Hx l≤l.length:=by
 unfold Hx knS
 refine TJ ?_
 obtain ⟨_,_,x3⟩:=Co l 0 (m:=4) (by decide)
 obtain ⟨_,_,y3⟩:=Co l (nxt l 0 4).2 (m:=4) (by decide)
 obtain ⟨_,_,z3⟩:=Co l (nxt l (nxt l 0 4).2 4).2 (m:=((5+1:Nat):Int)) (by decide)
 exact z3 (y3 (x3 (Nat.zero_le _)))
theorem Np (l:List Int): ∃t0 u mid,Kns (G7 l) (Dr l) t0 u mid:=by
 obtain ⟨t0,u,mid,h1,h2,h3⟩:=Po (l:=l) (p:=Dr l) (inner:=5) (n:=(nxt l 0 4).2) (G5 l).1
 exact ⟨t0,u,mid,h1,h2,h3⟩
theorem G6 (l:List Int):2*Dr l+2≤(G7 l).length∧(G7 l).length≤2*Dr l+2+5:=Vz
theorem Kk {l:List Int} {n k:Nat} (hb: ∀x∈l,-9223372036854775808≤x∧x<9223372036854775808) (hl:l.length≤1000000) (hn:n≤l.length):
  Ct Tryz.prog Amb 83 [.one (.ptr k 0)] [(k,BV l n,BV l (FS l n).2)] (nm 2 (FS l n).1):=by
 have key:Ct Tryz.prog Amb 83 [.one (.ptr 900 0)] [(900,BV l n,BV l (FS l n).2)] (nm 2 (FS l n).1):=by
  have N1:=Uq (k:=900) hb hl hn
  apply As Tryz.func83 rfl rfl rfl rfl rfl
  case hin=>simp [inA,inC]
  intro W0 base D μ0 hA hD
  repeat (first
   | refine Ah ?_|refine Ad ?_|refine Ab rfl ?_|refine Ac rfl ?_
   | (refine Al (by kernel_rfl) ?_
      repeat (first
       | refine An (hl:=?_)
       | refine Ao (hl:=?_)
       | refine At (hl:=?_)
       | refine Cj hA (hc:=N1) (hl:=?_))
      apply Ag.nil)
   | refine Ae ?_|refine Af ?_)
  refine AG (And.intro (Or.inr rfl) ?_)
  exact H7
 exact key.at1 k rfl rfl
theorem VS {l:List Int} (hb: ∀x∈l,-9223372036854775808≤x∧x<9223372036854775808) (hl:l.length≤1000000):
  Ctr Tryz.prog Amb 36 [.one (.ints l)] (.tup [.one (Ax 45 (G7 l)),Aj (Dr l:Nat),.one (Ax 2 (Ju l))]):=by
 obtain ⟨x1,x2,x3⟩:=Co l 0 (m:=4) (by decide)
 have hpb:=G5 l
 obtain ⟨k1,k2⟩:=G6 l
 have N1:=DA (k:=11) (n:=0) (m:=4) hb hl (Nat.zero_le _) (by decide) (by decide)
 have w1:=AZ (k:= .i64) (show (IntKind.i64).wrap (1+(nxt l 0 4).1)=(Dr l:Int) by
  have e:(1+(nxt l 0 4).1)=(Dr l:Int):=by unfold Dr;omega
  rw [e];exact IntWalk.i64_in _ (by omega))
 have K1:=Qv (k:=11) (n:=(nxt l 0 4).2) (p:=Dr l) (inner:=5) hb hl (x3 (Nat.zero_le _)) (by omega) (by omega)
 have NB: ∀q,Ct Tryz.prog Amb 83 [.one (.ptr 11 0)] [(11,BV l (nbP l (Hx l) q),BV l (nbP l (Hx l) (q+1)))] (nm 2 (FS l (nbP l (Hx l) q)).1):=fun q=>Kk hb hl (Pg (Qg l))
 have hK:knR l (Dr l) 5 (nxt l 0 4).2=G7 l:=rfl
 have hN:(knS l (Dr l) 5 (nxt l 0 4).2).2.2=nbP l (Hx l) 0:=rfl
 rw [hK,hN] at K1
 unfold Ju
 generalize G7 l=K at*
 generalize Dr l=p at*
 generalize Hx l=n0 at*
 clear hK hN
 obtain ⟨g,hg⟩: ∃g:Nat→Rat,g=fun q=>(FS l (nbP l n0 q)).1:=⟨_,rfl⟩
 have NB': ∀q,Ct Tryz.prog Amb 83 [.one (.ptr 11 0)] [(11,BV l (nbP l n0 q),BV l (nbP l n0 (q+1)))] (nm 2 (g q)):=fun q=>by rw [hg];exact NB q
 rw [←hg]
 clear NB hg
 obtain ⟨T,hT⟩: ∃T,T=tab (K.length-p-1) g:=⟨_,rfl⟩
 rw [←hT]
 refine As Tryz.func36 rfl rfl rfl rfl rfl rfl ?_
 intro W0 base D μ0 hA hD
 repeat (first
  | refine Ah ?_|refine Ad ?_|refine Ab rfl ?_|refine Ac rfl ?_
  | ((first|refine Al (by kernel_rfl) ?_|refine Aq (by kernel_rfl) (by kernel_rfl) (by kernel_rfl) ?_)
     repeat (first
      | refine An (hl:=?_)
      | refine Ai (hl:=?_)
      | refine AC (hl:=?_)
      | refine AJ (hl:=?_)
      | refine AI (hl:=?_)
      | refine AK (hl:=?_)
      | refine AH (hl:=?_)
      | refine Au (hl:=?_)
      | refine Lg hA (hc:=Up l) (hl:=?_)
      | refine Cj hA (hc:=N1) (hl:=?_)
      | refine Cj hA (hc:=K1) (hl:=?_))
     apply Ag.nil;try refine And.intro (by kernel_rfl) ?_)
  | refine Ae ?_|refine Af ?_)
 refine Cq (fun m σ=> ∃(i:Nat) (done:List Rat),m=K.length-p-1-i∧i≤K.length-p-1∧done=tab i g∧Wk ⟨W0,base,D,35,[],μ0⟩ σ [(5,.one (.ptr 11 0)),(6,Aj (p:Nat)),(7,.one (Ax 45 K)),(8,.one (.gl 900 done.length 3)),(9,Aj (i:Nat))] [(11,BV l (nbP l n0 i)),(900,AE (nmD 2) done)]) (n:=K.length-p-1) ⟨0,[],by omega,by omega,rfl,?_⟩ ?_
 ·exact BH
 clear N1 w1 K1
 intro m σ hI
 obtain ⟨i,done,hm,hi0,hdone,hw⟩:=hI
 refine BW hw ?_
 clear hw
 have hdl:done.length=i:=by rw [hdone];simp
 have s1:=BB (k:= .i64) (show (IntKind.i64).wrap ((K.length:Int)-(p:Int))=((K.length-p:Nat):Int) by rw [show ((K.length:Int)-(p:Int))=((K.length-p:Nat):Int) by omega];exact IntWalk.i64_in _ (by omega))
 have s2:=BB (k:= .i64) (show (IntKind.i64).wrap (((K.length-p:Nat):Int)-1)=((K.length-p-1:Nat):Int) by rw [show ((K.length-p:Nat):Int)-1=((K.length-p-1:Nat):Int) by omega];exact IntWalk.i64_in _ (by omega))
 by_cases hi:i<K.length-p-1
 ·have bi:=BO (k:= .i64) (decide_eq_true (show ((i:Nat):Int)<((K.length-p-1:Nat):Int) by omega))
  have hin:=AZ (k:= .i64) (show (IntKind.i64).wrap ((i:Int)+1)=((i+1:Nat):Int) from IntWalk.i64_in _ (by omega))
  have B1:=NB' i
  have ht:done++ [g i]=tab (i+1) g:=by rw [hdone];exact FJ
  generalize g i=x at B1 ht
  repeat (first
   | refine Ah ?_|refine Ad ?_|refine Ab rfl ?_|refine Ac rfl ?_
   | ((first|refine Al (by kernel_rfl) ?_|refine Aq (by kernel_rfl) (by kernel_rfl) (by kernel_rfl) ?_)
      repeat (first
       | refine An (hl:=?_)
       | refine Ai (hl:=?_)
       | refine AC (hl:=?_)
       | refine AJ (hl:=?_)
       | refine AI (hl:=?_)
       | refine AK (hl:=?_)
       | refine AH (hl:=?_)
       | refine Au (hl:=?_))
      apply Ag.nil;try refine And.intro (by kernel_rfl) ?_)
   | refine Ae ?_|refine Af ?_)
  try refine Ah ?_
  refine Cd 4 (by simp only [List.take_succ_cons,List.take_zero,List.drop_succ_cons,List.drop_zero];exact ⟨rfl,rfl⟩) (by kernel_rfl) ?_
  repeat (first
   | refine An (hl:=?_)
   | refine Ai (hl:=?_)
   | refine AC (hl:=?_)
   | refine AJ (hl:=?_)
   | refine AI (hl:=?_)
   | refine AK (hl:=?_)
   | refine AH (hl:=?_)
   | refine Au (hl:=?_)
   | refine Cj hA (hc:=B1) (hl:=?_))
  apply Ag.nil
  refine EA (k:=900) (ss:= [(5,.one (.ptr 11 0)),(6,Aj (p:Nat)),(7,.one (Ax 45 K)),(9,Aj (i:Nat))]) (bs:= [(11,BV l (nbP l n0 (i+1)))]) (ns:=(nmC 2 x)) hD ?_ ?_ ?_
  ·exact ⟨by omega,by omega⟩
  ·exact BH
  repeat (refine Dt rfl ?_;(first|refine Ai (hl:=?_)|refine An (hl:=?_)|refine Ao (hl:=?_));apply Ag.nil)
  refine Du ?_
  repeat (first
   | refine Ah ?_|refine Ad ?_|refine Ab rfl ?_|refine Ac rfl ?_
   | ((first|refine Al (by kernel_rfl) ?_|refine Aq (by kernel_rfl) (by kernel_rfl) (by kernel_rfl) ?_)
      repeat (first
       | refine An (hl:=?_)
       | refine Ai (hl:=?_)
       | refine AC (hl:=?_)
       | refine AJ (hl:=?_)
       | refine AI (hl:=?_)
       | refine AK (hl:=?_)
       | refine AH (hl:=?_)
       | refine Au (hl:=?_))
      apply Ag.nil;try refine And.intro (by kernel_rfl) ?_)
   | refine Ae ?_|refine Af ?_)
  refine ⟨m-1,by omega,i+1,done++ [x],by omega,by omega,ht,?_⟩
  exact BH
 ·have bi:=BO (k:= .i64) (decide_eq_false (show ¬((i:Nat):Int)<((K.length-p-1:Nat):Int) by omega))
  obtain rfl:i=K.length-p-1:=by omega
  rw [←hT] at hdone
  repeat (first
   | refine Ah ?_|refine Ad ?_|refine Ab rfl ?_|refine Ac rfl ?_
   | ((first|refine Al (by kernel_rfl) ?_|refine Aq (by kernel_rfl) (by kernel_rfl) (by kernel_rfl) ?_)
      repeat (first
       | refine An (hl:=?_)
       | refine Ai (hl:=?_)
       | refine AC (hl:=?_)
       | refine AJ (hl:=?_)
       | refine AI (hl:=?_)
       | refine AK (hl:=?_)
       | refine AH (hl:=?_)
       | refine Au (hl:=?_))
      apply Ag.nil;try refine And.intro (by kernel_rfl) ?_)
   | refine Ae ?_|refine Af ?_)
  refine Dq 900 hD (ss:= [(2,.one (Ax 45 K)),(3,Aj (p:Nat)),(4,.one (Ax 2 done))]) (bs:= []) ?_ ?_
  ·exact NM
  subst hdone
  refine AG (And.intro (Or.inr rfl) ?_)
  exact DU
theorem RW {j1 j2:Nat} {a b:Rat} {n:Int} (h1: -9223372036854775808≤n) (h2:n<9223372036854775808) (h3:j1≤10000) (h4:j2≤10000):Ctr Tryz.prog Amb 32 [.agg [.q a j1 0,.q a j1 1,.q a j1 2,.q b j2 0,.q b j2 1,.q b j2 2],.one (.v (.int .i64 n))] (nm (j1+(2+(j2+j1+3)+2)+3) (a+Jo n*(b-a))):=by
 have P1:=Xg h1 h2
 have S1:=Ir (j:=j2) (k:=j1) (x:=b) (y:=a) (by omega) (by omega)
 have M1:=M9 (j:=2) (k:=j2+j1+3) (x:=Jo n) (y:=b-a) (by omega) (by omega)
 have A1:=Is (j:=j1) (k:=2+(j2+j1+3)+2) (x:=a) (y:=Jo n*(b-a)) (by omega) (by omega)
 refine As Tryz.func32 rfl rfl rfl rfl rfl rfl ?_
 intro W0 base D μ0 hA hD
 repeat (first
  | refine Ah ?_|refine Ad ?_|refine Ab rfl ?_|refine Ac rfl ?_
  | ((first|refine Al (by kernel_rfl) ?_|refine Aq (by kernel_rfl) (by kernel_rfl) (by kernel_rfl) ?_)
     repeat (first
      | refine An (hl:=?_)
      | refine Az (hl:=?_)
      | refine DQ (hl:=?_)
      | refine Ao (hl:=?_)
      | refine Da (hl:=?_)
      | refine At (hl:=?_)
      | refine Ap hA (hc:=P1) (hl:=?_)
      | refine Ap hA (hc:=S1) (hl:=?_)
      | refine Ap hA (hc:=M1) (hl:=?_)
      | refine Ap hA (hc:=A1) (hl:=?_))
     apply Ag.nil;try refine And.intro (by kernel_rfl) ?_)
  | refine Ae ?_|refine Af ?_)
 refine AG (And.intro (Or.inr rfl) ?_)
 exact B7
def Xs (K:List Rat) (i:Int):Rat:=LY K+Jo i*(FT K-LY K)
def Xp (K:List Rat) (i:Int):Rat:=if i % 9=8 then Rw (i.tdiv 9) i else Xs K i
theorem XV {K:List Rat} {i:Int} (h1: -9223372036854775808≤i) (h2:i<9223372036854775808) (hl:0<K.length∧K.length≤1000000):
  Ctr Tryz.prog Amb 37 [.one (Ax 45 K),.one (.v (.int .i64 i))] (nm 145 (Xp K i)):=by
 have M1:=He (n:=i) (m:=9) h1 h2 (by decide) (by decide)
 unfold Xp
 by_cases h:i % 9=8
 ·have b1:=CJ (k:= .i64) (decide_eq_true h)
  rw [if_pos h]
  have hab:(i.tdiv 9).natAbs=i.natAbs/9:=Int.natAbs_tdiv i 9
  have hq: -9223372036854775808≤i.tdiv 9∧i.tdiv 9<9223372036854775808:=by omega
  have q1:FF .quo .i64 i 9=some (.int .i64 (i.tdiv 9)):=by
   show (if (9:Int)=0 then none else some (Value.int .i64 ((IntKind.i64).wrap (i.tdiv 9))))=_
   rw [if_neg (by decide),IntWalk.i64_in _ (by omega)]
  have R1:=Wl (n:=i.tdiv 9) (d:=i) hq.1 hq.2 h1 h2
  refine As Tryz.func37 rfl rfl rfl rfl rfl rfl ?_
  intro W0 base D μ0 hA hD
  repeat (first
   | refine Ah ?_|refine Ad ?_|refine Ab rfl ?_|refine Ac rfl ?_
   | ((first|refine Al (by kernel_rfl) ?_|refine Aq (by kernel_rfl) (by kernel_rfl) (by kernel_rfl) ?_)
      repeat (first
       | refine An (hl:=?_)
       | refine Az (hl:=?_)
       | refine Ao (hl:=?_)
       | refine At (hl:=?_)
       | refine A0 (hl:=?_)
       | refine A5 (hl:=?_)
       | refine AC (hl:=?_)
       | refine Ak (hl:=?_)
       | refine AL (hl:=?_)
       | refine AJ (hl:=?_)
       | refine AI (hl:=?_)
       | refine AK (hl:=?_)
       | refine AH (hl:=?_)
       | refine Ar (hl:=?_)
       | refine Ap hA (hc:=M1) (hl:=?_)
       | refine Ap hA (hc:=R1) (hl:=?_))
      apply Ag.nil;try refine And.intro (by kernel_rfl) ?_)
   | refine Ae ?_|refine Af ?_)
  refine AG (And.intro (Or.inr rfl) ?_)
  exact B7
 ·have b1:=CJ (k:= .i64) (decide_eq_false h)
  rw [if_neg h]
  have W1:=RW (j1:=45) (j2:=45) (a:=LY K) (b:=FT K) h1 h2 (by decide) (by decide)
  have s1:=BB (k:= .i64) (show (IntKind.i64).wrap ((K.length:Int)-1)=((K.length-1:Nat):Int) by rw [show ((K.length:Int)-1)=((K.length-1:Nat):Int) by omega];exact IntWalk.i64_in _ (by omega))
  have hx:=T8 hl.1
  have hy:=TE hl.1
  unfold Xs
  generalize LY K=x at*
  generalize FT K=y at*
  generalize Jo i=r at*
  refine As Tryz.func37 rfl rfl rfl rfl rfl rfl ?_
  intro W0 base D μ0 hA hD
  repeat (first
   | refine Ah ?_|refine Ad ?_|refine Ab rfl ?_|refine Ac rfl ?_
   | ((first|refine Al (by kernel_rfl) ?_|refine Aq (by kernel_rfl) (by kernel_rfl) (by kernel_rfl) ?_)
      repeat (first
       | refine An (hl:=?_)
       | refine Az (hl:=?_)
       | refine Ao (hl:=?_)
       | refine At (hl:=?_)
       | refine A0 (hl:=?_)
       | refine A5 (hl:=?_)
       | refine AC (hl:=?_)
       | refine Ak (hl:=?_)
       | refine AL (hl:=?_)
       | refine AJ (hl:=?_)
       | refine AI (hl:=?_)
       | refine AK (hl:=?_)
       | refine AH (hl:=?_)
       | refine Ar (hl:=?_)
       | refine Ap hA (hc:=M1) (hl:=?_)
       | refine Ap hA (hc:=W1) (hl:=?_)
       | refine C9 (i:=0) hx (by omega) (hl:=?_)
       | refine C9 hy (by omega) (hl:=?_))
      apply Ag.nil;try refine And.intro (by kernel_rfl) ?_)
   | refine Ae ?_|refine Af ?_)
  refine AG (And.intro (Or.inr rfl) ?_)
  exact B7
abbrev Kc:Rat:=((1:Int):Rat)
abbrev Ha:Rat:=((1:Int):Rat)/((2:Int):Rat)
abbrev kn6:List Rat:= [0,0,0,Kc,Kc,Kc]
theorem VB:Kns kn6 2 0 Kc []:=⟨rfl,fun a ha=>(by cases ha),⟨fun a ha=>by rw [List.mem_singleton.1 ha];decide+kernel,⟨fun a ha=>(by cases ha),trivial⟩⟩⟩
theorem UB:Ctr Tryz.prog Amb 35 [] (.one (.v (.bool true))):=by
 have I1:=Na (n:=1) rfl
 have F1:=GD (n:=1) (d:=2) rfl
 have hlt:kn6.getD 2 0<kn6.getD (2+1) 0:=by decide+kernel
 have hd:=VB.hd (e:=2) (by decide) (by decide) hlt
 have eI:ivR kn6 Ha= [Aj ((2:Nat):Int),Aj 0]:=by
  have e1:ivI kn6 Ha=2:=by decide+kernel
  have e2: ¬(ivI kn6 Ha<0∨FT kn6<Ha):=by decide+kernel
  unfold ivR
  rw [if_neg e2,e1]
  rfl
 have V1:=Kj (j:=2) (jt:=2) (p:=2) (i:=2) (l:=kn6) (t:=Ha) (by decide) (by decide) (by decide) (by decide) (by decide) (by decide) (by decide) hlt eI hd
 have B1:=Ja (j:=2) (jc:=2) (jt:=2) (p:=2) (i:=2) (l:=kn6) (c:= [0,0,Kc]) (args:= [Ha,Kc]) (by decide) (by decide) (by decide) (by decide) (by decide) (by decide) (by decide) hlt (by decide) (by decide) hd
 have eb:J0 kn6 2 2 [0,0,Kc] [Ha,Kc]=1/2:=by decide+kernel
 rw [eb] at B1
 obtain ⟨L,hL⟩: ∃L,L=tab (2+1) (dbV (kn kn6 2 2) 2 Ha 2):=⟨_,rfl⟩
 rw [←hL] at V1
 have hx:L[(0:Int).toNat]?=some (1/4):=by rw [hL];decide+kernel
 have hy:L[(1:Int).toNat]?=some (1/2):=by rw [hL];decide+kernel
 have hl1:((L.length:Nat):Int)=3:=by rw [hL];rfl
 have b1:=CJ (k:= .i64) (decide_eq_true hl1)
 have T1:=LE (j:=gvt (2+1) (2+1) 2) (x:=1/4) (s:= { data:= #[49,47,52] }) (by decide) (by decide+kernel)
 have T2:=LE (j:=gvt (2+1) (2+1) 2) (x:=1/2) (s:= { data:= #[49,47,50] }) (by decide) (by decide+kernel)
 have T3:=LE (j:=gwt (2+1) (2+1) (2+1) 2) (x:=1/2) (s:= { data:= #[49,47,50] }) (by decide) (by decide+kernel)
 clear hL eI hd hlt eb
 generalize gvt (2+1) (2+1) 2=G at*
 generalize gwt (2+1) (2+1) (2+1) 2=H at*
 refine As Tryz.func35 rfl rfl rfl rfl rfl rfl ?_
 intro W0 base D μ0 hA hD
 repeat (first
  | refine Ah ?_|refine Ad ?_|refine Ab rfl ?_|refine Ac rfl ?_
  | ((first|refine Al (by kernel_rfl) ?_|refine Aq (by kernel_rfl) (by kernel_rfl) (by kernel_rfl) ?_)
     repeat (first
      | refine F6 (f:=nmD 2) (la:=kn6) (hl:=?_)
      | refine F6 (f:=nmD 2) (la:= [0,0,Kc]) (hl:=?_)
      | refine F6 (f:=nmD 2) (la:= [Ha,Kc]) (hl:=?_)
      | refine A8 (hl:=?_)
      | refine An (hl:=?_)
      | refine Ai (hl:=?_)
      | refine Az (hl:=?_)
      | refine Ao (hl:=?_)
      | refine At (hl:=?_)
      | refine A0 (hl:=?_)
      | refine A5 (hl:=?_)
      | refine AD (hl:=?_)
      | refine AC (hl:=?_)
      | refine Ak (hl:=?_)
      | refine AM (hl:=?_)
      | refine AN (hl:=?_)
      | refine AL (hl:=?_)
      | refine AJ (hl:=?_)
      | refine AI (hl:=?_)
      | refine AK (hl:=?_)
      | refine AH (hl:=?_)
      | refine Ar (hl:=?_)
      | refine Au (hl:=?_)
      | refine Ap hA (hc:=I1) (hl:=?_)
      | refine Ap hA (hc:=F1) (hl:=?_)
      | refine Ap hA (hc:=V1) (hl:=?_)
      | refine Ap hA (hc:=B1) (hl:=?_))
     apply Ag.nil;try refine And.intro (by kernel_rfl) ?_)
  | refine Ae ?_|refine Af ?_)
 refine BW (ss:= [(3,Aj 0),(4,.one (Ax G L)),(5,Aj 0),(6,.one (.ptr 6 0)),(7,Aj 0)]) (bs:= [(6,nmC H (1/2))]) ?_ ?_
 ·exact BH
 repeat (first
  | refine Ah ?_|refine Ad ?_|refine Ab rfl ?_|refine Ac rfl ?_
  | ((first|refine Al (by kernel_rfl) ?_|refine Aq (by kernel_rfl) (by kernel_rfl) (by kernel_rfl) ?_)
     repeat (first
      | refine A8 (hl:=?_)
      | refine An (hl:=?_)
      | refine Ai (hl:=?_)
      | refine Az (hl:=?_)
      | refine Ao (hl:=?_)
      | refine At (hl:=?_)
      | refine A0 (hl:=?_)
      | refine A5 (hl:=?_)
      | refine AD (hl:=?_)
      | refine AC (hl:=?_)
      | refine Ak (hl:=?_)
      | refine AM (hl:=?_)
      | refine AN (hl:=?_)
      | refine AL (hl:=?_)
      | refine AJ (hl:=?_)
      | refine AI (hl:=?_)
      | refine AK (hl:=?_)
      | refine AH (hl:=?_)
      | refine Ar (hl:=?_)
      | refine Au (hl:=?_)
      | refine Ap hA (hc:=T1) (hl:=?_)
      | refine Ap hA (hc:=T2) (hl:=?_)
      | refine Ap hA (hc:=T3) (hl:=?_)
      | refine C9 (i:=0) hx (by omega) (hl:=?_)
      | refine C9 (i:=1) hy (by omega) (hl:=?_)
      | refine Wz (hl:=?_))
     apply Ag.nil;try refine And.intro (by kernel_rfl) ?_)
  | refine Ae ?_|refine Af ?_)
 refine AG (And.intro (Or.inr rfl) ?_)
 exact B7
theorem JE {jn jt J jn' jt' J':Nat} (h1:jn≤jn') (h2:jt≤jt') (h3:J≤J'): ∀s,gwt jn jt J s≤gwt jn' jt' J' s
 | 0=>h3
 | s+1=>by
   have:=JE h1 h2 h3 s
   show 3*gwt jn jt J s+(3*jn+jt+2)+10≤3*gwt jn' jt' J' s+(3*jn'+jt'+2)+10
   omega
theorem NG {jn jt jn' jt':Nat} (h1:jn≤jn') (h2:jt≤jt'): ∀s,gvt jn jt s≤gvt jn' jt' s
 | 0=>Yh _
 | s+1=>by
   have:=NG h1 h2 s
   show 3*gvt jn jt s+2*(3*jn+jt+2)+10≤3*gvt jn' jt' s+2*(3*jn'+jt'+2)+10
   omega
theorem TU {j jt d e:Nat} (h:d≤e):gft j jt d≤gft j jt e:=by
 obtain ⟨m,rfl⟩: ∃m,e=d+m:=⟨e-d,by omega⟩
 clear h
 induction m with
 | zero=>exact Yh _
 | succ m ih=>exact Nat.le_trans ih TT
section
variable {K C X:List Rat} {p j jc jt:Nat} {t0 u t:Rat} {mid:List (Rat×Nat)}
theorem JZ {a:Int} (hk:Kns K p t0 u mid) (hp:1≤p∧p≤6) (hl:K.length≤1000000) (hj:j≤100) (hjc:jc≤100) (hjt:jt≤200):
  ∃(G:Nat) (r:Rat) (e:Int),Ctr Tryz.prog Amb 42 [.one (Ax j K),Aj (p:Nat),.one (Ax jc C),Aj a,.one (Ax jt X)] (.tup [nm G r,Aj e])∧Ctr Tryz.prog Amb 43 [.one (Ax j K),Aj (p:Nat),.one (Ax jc C),Aj a,.one (Ax jt X)] (.tup [nm G r,Aj e]):=by
 have hlen:=hk.len
 by_cases h1:C.length=K.length-p-1∧X.length=p
 ·have hJ:gwt (j+1) (jt+1) (jc+1) p≤1000000:=Nat.le_trans (JE (show j+1≤101 by omega) (show jt+1≤201 by omega) (show jc+1≤101 by omega) p) (Nat.le_trans (FX hp.2) (by decide))
  by_cases h2:a<p∨((K.length-p-1:Nat):Int)≤a∨ ¬K.getD a.toNat 0<K.getD (a.toNat+1) 0
  ·refine ⟨2,0,7,Ow (by omega) hl hp (by omega) h1.1 h1.2 h2,Mw (by omega) hl hp (by omega) h1.1 h1.2 ?_⟩
   by_cases h3:a<p
   ·exact .inl h3
   ·by_cases h4:((K.length-p-1:Nat):Int)≤a
    ·exact .inr (.inl h4)
    ·refine .inr (.inr ?_)
     have h5:=(h2.resolve_left h3).resolve_left h4
     have h6:=hk.mono (i:=a.toNat) (j:=a.toNat+1) (by omega) (by omega)
     grind
  ·have h3: ¬a<p:=fun h=>h2 (.inl h)
   have h4: ¬((K.length-p-1:Nat):Int)≤a:=fun h=>h2 (.inr (.inl h))
   have h5:K.getD a.toNat 0<K.getD (a.toNat+1) 0:=by
    by_cases h:K.getD a.toNat 0<K.getD (a.toNat+1) 0
    ·exact h
    ·exact absurd (.inr (.inr h)) h2
   obtain ⟨i,rfl⟩: ∃q:Nat,a=(q:Int):=⟨a.toNat,by omega⟩
   have h5:K.getD i 0<K.getD (i+1) 0:=h5
   have hd:=hk.hd (e:=i) (by omega) (by omega) h5
   exact ⟨_,_,0,Ja (by omega) (by omega) hJ hl hp (by omega) (by omega) h5 h1.1 h1.2 hd,Ok (by omega) (by omega) hJ hl hp (by omega) (by omega) (fun e=>by rw [e] at h5;exact absurd h5 Rat.lt_irrefl) h1.1 h1.2 hd⟩
 ·have h:C.length≠K.length-p-1∨X.length≠p:=by
   by_cases h2:C.length=K.length-p-1
   ·exact .inr fun h3=>h1 ⟨h2,h3⟩
   ·exact .inl h2
  exact ⟨2,0,1,Ox hl (by omega) h,Mx hl (by omega) h⟩
theorem Kns.ivR_in (hk:Kns K p t0 u mid) (h1:t0≤t) (h2:t≤u): ∃e:Nat,V7 K p t e∧ivR K t= [Aj (e:Nat),Aj 0]:=by
 obtain ⟨e,he,hi⟩:=hk.iv h1 h2
 refine ⟨e,he,?_⟩
 unfold ivR
 rw [hi,hk.lst,if_neg]
 rintro (h|h)
 ·omega
 ·exact Rat.not_lt.2 h2 h
theorem Kns.ivR_out (hk:Kns K p t0 u mid) (h:t<t0∨u<t):ivR K t= [Aj 0,Aj 7]:=by
 unfold ivR
 rw [hk.lst,if_pos]
 rcases h with h|h
 ·left;rw [hk.iv_low h];decide
 ·exact .inr h
theorem Xm {e:Nat} (he:p≤e) (hd: ∀s j,s<p→j<p-s→kn K p e (p+j)-kn K p e (s+j)≠0):VW K p e t=tab (p+1) (dbV (kn K p e) p t p):=
 Ec fun i hi=>Qr (k:=nth K) (n:=kn K p e) (q:=e) he (fun i=>rfl) hd (Yh p) (by omega)
theorem R6 (hk:Kns K p t0 u mid) (hp:1≤p∧p≤6) (hl:K.length≤1000000) (hj:j≤100) (hjt:jt≤200):
  ∃(G G':Nat) (i e:Int) (B:List Rat),B.length≤1000000000∧Ctr Tryz.prog Amb 38 [.one (Ax j K),Aj (p:Nat),nm jt t] (.tup [Aj i,.one (Ax G B),Aj e])∧Ctr Tryz.prog Amb 39 [.one (Ax j K),Aj (p:Nat),nm jt t] (.tup [Aj i,.one (Ax G' B),Aj e]):=by
 have hlen:=hk.len
 have hf:=hk.fst
 have hla:=hk.lst
 unfold LY at hf
 unfold FT at hla
 by_cases h1:t<t0∨u<t
 ·have h2:t<K.getD 0 0∨K.getD (K.length-1) 0<t:=by rw [hf,hla];exact h1
  exact ⟨0,0,0,7,[],by decide,Rb (by omega) (by omega) hl (by omega) (hk.ivR_out h1),I4 (by omega) (by omega) hl (by omega) h2⟩
 ·have h2: ¬t<t0:=fun h=>h1 (.inl h)
  have h3: ¬u<t:=fun h=>h1 (.inr h)
  obtain ⟨e,he,hi⟩:=hk.ivR_in (Rat.not_lt.1 h2) (Rat.not_lt.1 h3)
  have hd:=hk.hd he.low he.high he.lt
  have hJ:gvt (j+1) (jt+1) p≤1000000:=Nat.le_trans (NG (show j+1≤101 by omega) (show jt+1≤201 by omega) p) (Nat.le_trans (TO hp.2) (by decide))
  have hG:gft j jt p≤10000000:=by
   have key: ∀d,gft j jt d≤gft 100 200 d:=by
    intro d
    induction d with
    | zero=>exact Yh _
    | succ d ih=>
      show (jt+j+3+(j+j+3)+2+gft j jt d+2)+(j+jt+3+(j+j+3)+2+gft j jt d+2)+3≤(200+100+3+(100+100+3)+2+gft 100 200 d+2)+(100+200+3+(100+100+3)+2+gft 100 200 d+2)+3
      omega
   exact Nat.le_trans (key p) (Nat.le_trans (TU hp.2) (by decide))
  have V1:=Kj (j:=j) (jt:=jt) (p:=p) (i:=e) (l:=K) (t:=t) (by omega) (by omega) hJ hl hp he.low he.high he.lt hi hd
  have V2:=Ki (j:=j) (jt:=jt) (p:=p) (e:=e) (l:=K) (t:=t) (by omega) (by omega) hl hp.1 hG (by rw [hf];exact h2) (by rw [hla];exact h3) he.low he.high (Rat.not_lt.2 he.begins) fun i hi hi2=>he.max hk hi hi2
  rw [Xm he.low hd] at V2
  exact ⟨_,_,_,_,_,by simp;omega,V1,V2⟩
theorem Vc {e:Nat} (he:p≤e) (hd: ∀s j,s<p→j<p-s→kn K p e (p+j)-kn K p e (s+j)≠0):smW (fun i=>C.getD (e-p+i) 0*fnR (nth K) e t p (e-p+i)) (p+1)=J0 K p e C (List.replicate p t):=by
 unfold J0
 have h1:=NP (n:=kn K p e) (p:=p) (t:=t) (c:=fun x=>C.getD (e-p+x) 0) (Yh p)
 rw [Nat.sub_self] at h1
 have h2:dbW (kn K p e) p (nth (List.replicate p t)) (fun x=>C.getD (e-p+x) 0) p 0=dbW (kn K p e) p (fun _=>t) (fun x=>C.getD (e-p+x) 0) p 0:=Gj (fun q hq=>by
  show (List.replicate p t).getD q 0=t
  rw [List.getD_eq_getElem?_getD,List.getElem?_replicate,if_pos hq]
  rfl) fun _ _ _=>rfl
 rw [h2,←h1]
 refine F9 fun i hi=>?_
 rw [Qr (k:=nth K) (n:=kn K p e) (q:=e) he (fun i=>rfl) hd (Yh p) (by omega)]
 rfl
theorem KZ (hk:Kns K p t0 u mid) (hp:1≤p∧p≤6) (hl:K.length≤1000000) (hj:j≤100) (hjc:jc≤100) (hjt:jt≤200):
  ∃(G G':Nat) (r:Rat) (e:Int),Ctr Tryz.prog Amb 40 [.one (Ax j K),Aj (p:Nat),.one (Ax jc C),nm jt t] (.tup [nm G r,Aj e])∧Ctr Tryz.prog Amb 41 [.one (Ax j K),Aj (p:Nat),.one (Ax jc C),nm jt t] (.tup [nm G' r,Aj e]):=by
 have hlen:=hk.len
 have hf:=hk.fst
 have hla:=hk.lst
 unfold LY at hf
 unfold FT at hla
 by_cases hc:C.length=K.length-p-1
 ·by_cases h1:t<t0∨u<t
  ·have h2:t<K.getD 0 0∨K.getD (K.length-1) 0<t:=by rw [hf,hla];exact h1
   exact ⟨2,2,0,7,WR (by omega) (by omega) hl (by omega) hc (hk.ivR_out h1),U9 (by omega) (by omega) hl (by omega) hc h2⟩
  ·have h2: ¬t<t0:=fun h=>h1 (.inl h)
   have h3: ¬u<t:=fun h=>h1 (.inr h)
   obtain ⟨e,he,hi⟩:=hk.ivR_in (Rat.not_lt.1 h2) (Rat.not_lt.1 h3)
   have hd:=hk.hd he.low he.high he.lt
   have hJ:gwt (j+1) (jt+1) (jc+1) p≤1000000:=Nat.le_trans (JE (show j+1≤101 by omega) (show jt+1≤201 by omega) (show jc+1≤101 by omega) p) (Nat.le_trans (FX hp.2) (by decide))
   have hG:gft j jt p≤10000000:=by
    have key: ∀d,gft j jt d≤gft 100 200 d:=by
     intro d
     induction d with
     | zero=>exact Yh _
     | succ d ih=>
       show (jt+j+3+(j+j+3)+2+gft j jt d+2)+(j+jt+3+(j+j+3)+2+gft j jt d+2)+3≤(200+100+3+(100+100+3)+2+gft 100 200 d+2)+(100+200+3+(100+100+3)+2+gft 100 200 d+2)+3
       omega
    exact Nat.le_trans (key p) (Nat.le_trans (TU hp.2) (by decide))
   have V1:=WQ (j:=j) (jt:=jt) (jc:=jc) (p:=p) (i:=e) (l:=K) (c:=C) (t:=t) (by omega) (by omega) hJ hl hp he.low he.high he.lt hi hc hd
   have V2:=WK (j:=j) (jt:=jt) (jc:=jc) (p:=p) (e:=e) (l:=K) (c:=C) (t:=t) (by omega) (by omega) (by omega) hl hp hG (by rw [hf];exact h2) (by rw [hla];exact h3) he.low he.high (Rat.not_lt.2 he.begins) (fun i hi hi2=>he.max hk hi hi2) hc
   rw [Vc he.low hd] at V2
   exact ⟨_,_,_,_,V1,V2⟩
 ·exact ⟨2,2,0,1,WS hl (by omega) hc,Va hl (by omega) hc⟩
end
end Go.Proofs.YtkmalkcgkcpcmaaGreatDoor
