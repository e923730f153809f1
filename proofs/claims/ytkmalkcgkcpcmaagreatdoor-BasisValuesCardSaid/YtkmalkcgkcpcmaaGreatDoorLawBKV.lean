/-
  BasisValues, by contracts.
-/
import Derived.Test.YtkmalkcgkcpcmaaGreatDoorIh
import Derived.Test.YtkmalkcgkcpcmaaGreatDoorZcj
namespace Go.Proofs.YtkmalkcgkcpcmaaGreatDoor
open Go.RowKit
set_option linter.unusedVariables false
set_option linter.unusedSimpArgs false
set_option maxRecDepth 20000
set_option maxHeartbeats 4000000
namespace bvalues
theorem light' {l:List Int} {b:Bool} (h:decide ((l.length:Int)≤500)=b):Ctr Tryz.prog Amb 10 [.one (.ints l)] (.one (.v (.bool b))):=h▸Qu l
theorem same_r {j k:Nat} {x:Rat} :Ctr Tryz.prog Amb 34 [nm j x,nm k x] (.one (.v (.bool true))):=by
 have:=Hr (j:=j) (k:=k) (x:=x) (y:=x)
 rwa [decide_eq_true rfl] at this
theorem WP {j k:Nat} {l:List Rat} (h:l.length≤1000000000):Ctr Tryz.prog Amb 24 [.one (Ax j l),.one (Ax k l)] (.one (.v (.bool true))):=by
 have:=Oj (j:=j) (k:=k) (l:=l) (m:=l) h h
 rwa [decide_eq_true rfl] at this
theorem law {l:List Int} {i n:Int} (hb: ∀x∈l,-9223372036854775808≤x∧x<9223372036854775808) (hi1: -9223372036854775808≤i) (hi2:i<9223372036854775808) (hn1: -9223372036854775808≤n) (hn2:n<9223372036854775808):
  Ctr Tryz.prog Amb 6 [.one (.ints l),.one (.v (.int .i64 i)),.one (.v (.int .i64 n))] (.one (.v (.bool true))):=by
 have hA9:=UB
 by_cases hL:(l.length:Int)≤500
 ·have D1:=light' (decide_eq_true hL)
  have hl:l.length≤1000000:=by omega
  have M1:=Ur hb hl
  have hp:=G5 l
  obtain ⟨k1,k2⟩:=G6 l
  obtain ⟨t0,u,mid,hk⟩:=Np l
  have hCl:(Ju l).length=(G7 l).length-Dr l-1:=by unfold Ju;simp
  generalize Ju l=C at*
  generalize G7 l=K at*
  generalize Dr l=p at*
  have N1:=He (n:=n) (m:=9) hn1 hn2 (by decide) (by decide)
  have T1:=XV (K:=K) hi1 hi2 ⟨by omega,by omega⟩
  generalize Xp K i=t at*
  obtain ⟨G1,G2,q1,e1,B,hBl,V1,V2⟩:=R6 (j:=45) (jt:=145) (t:=t) hk (by omega) (by omega) (by decide) (by decide)
  obtain ⟨H1,H2,r1,f1,S1,S2⟩:=KZ (j:=45) (jc:=2) (jt:=145) (t:=t) (C:=C) hk (by omega) (by omega) (by decide) (by decide) (by decide)
  obtain ⟨H3,H4,r2,f2,S3,S4⟩:=KZ (j:=45) (jc:=2) (jt:=145) (t:=t) (C:=C++ [0]) hk (by omega) (by omega) (by decide) (by decide) (by decide)
  have W1:=same_r (j:=H1) (k:=H2) (x:=r1)
  have W2:=same_r (j:=H3) (k:=H4) (x:=r2)
  have W3:=WP (j:=G1) (k:=G2) hBl
  have bq:=CJ (k:= .i64) (decide_eq_true (rfl:q1=q1))
  have be:=CJ (k:= .i64) (decide_eq_true (rfl:e1=e1))
  have bf1:=CJ (k:= .i64) (decide_eq_true (rfl:f1=f1))
  have bf2:=CJ (k:= .i64) (decide_eq_true (rfl:f2=f2))
  have hbl:0<(AE (nmD 2) C).length:=by rw [BF (n:=3) inferInstance];omega
  clear hk
  refine As Tryz.func6 rfl rfl rfl rfl rfl rfl ?_
  intro W0 base D μ0 hA hD
  repeat (first
   | refine Ah ?_|refine Ad ?_|refine Ab rfl ?_|refine Ac rfl ?_
   | ((first|refine Al (by kernel_rfl) ?_|refine Aq (by kernel_rfl) (by kernel_rfl) (by kernel_rfl) ?_)
      repeat (first
       | refine A8 (hl:=?_)
       | refine An (hl:=?_)
       | refine Ai (hl:=?_)
       | refine Az (hl:=?_)
       | refine Ao (hl:=?_)
       | refine At (hl:=?_)
       | refine A0 (hl:=?_)
       | refine A5 (hl:=?_)
       | refine AD (hl:=?_)
       | refine AC (hl:=?_)
       | refine Cs (hl:=?_)
       | refine AM (hl:=?_)
       | refine AN (hl:=?_)
       | refine AL (hl:=?_)
       | refine AJ (hl:=?_)
       | refine AI (hl:=?_)
       | refine AK (hl:=?_)
       | refine Ar (hl:=?_)
       | refine Au (hl:=?_)
       | refine Ap hA (hc:=D1) (hl:=?_)
       | refine Ml hA [] M1 hbl (hl:=?_)
       | refine Ap hA (hc:=T1) (hl:=?_)
       | refine Ap hA (hc:=V1) (hl:=?_)
       | refine Ap hA (hc:=V2) (hl:=?_))
      apply Ag.nil;try refine And.intro (by kernel_rfl) ?_)
   | refine Ae ?_|refine Af ?_)
  refine BW (ss:= [(2,.one (.v (.int .i64 n))),(7,.one (Ax 45 K)),(8,Aj (p:Nat)),(9,.one (.gl 900 C.length 3)),(10,.one (.ptr 10 0)),(11,Aj q1),(12,.one (Ax G1 B)),(13,Aj e1),(14,Aj q1),(15,.one (Ax G2 B)),(16,Aj e1)]) (bs:= [(900,AE (nmD 2) C),(10,nmC 145 t)]) ?_ ?_
  ·exact BH
  clear M1 V1 V2 T1 D1
  by_cases h8:n % 9=8
  ·have w1:=CJ (k:= .i64) (decide_eq_true h8)
   repeat (first
    | refine Ah ?_|refine Ad ?_|refine Ab rfl ?_|refine Ac rfl ?_
    | ((first|refine Al (by kernel_rfl) ?_|refine Aq (by kernel_rfl) (by kernel_rfl) (by kernel_rfl) ?_)
       repeat (first
        | refine A8 (hl:=?_)
        | refine An (hl:=?_)
        | refine Ai (hl:=?_)
        | refine Az (hl:=?_)
        | refine Ao (hl:=?_)
        | refine At (hl:=?_)
        | refine A0 (hl:=?_)
        | refine A5 (hl:=?_)
        | refine AD (hl:=?_)
        | refine AC (hl:=?_)
        | refine Cs (hl:=?_)
        | refine AM (hl:=?_)
        | refine AN (hl:=?_)
        | refine AL (hl:=?_)
        | refine AJ (hl:=?_)
        | refine AI (hl:=?_)
        | refine AK (hl:=?_)
        | refine Ar (hl:=?_)
        | refine Au (hl:=?_)
        | refine Ap hA (hc:=N1) (hl:=?_))
       apply Ag.nil;try refine And.intro (by kernel_rfl) ?_)
    | refine Ae ?_|refine Af ?_)
   try refine Ah ?_
   refine Cd 3 (by simp only [List.take_succ_cons,List.take_zero,List.drop_succ_cons,List.drop_zero];exact ⟨rfl,rfl⟩) (by kernel_rfl) ?_
   repeat (first
    | refine A8 (hl:=?_)
    | refine An (hl:=?_)
    | refine Ai (hl:=?_)
    | refine Az (hl:=?_)
    | refine Ao (hl:=?_)
    | refine At (hl:=?_)
    | refine A0 (hl:=?_)
    | refine A5 (hl:=?_)
    | refine AD (hl:=?_)
    | refine AC (hl:=?_)
    | refine Cs (hl:=?_)
    | refine AM (hl:=?_)
    | refine AN (hl:=?_)
    | refine AL (hl:=?_)
    | refine AJ (hl:=?_)
    | refine AI (hl:=?_)
    | refine AK (hl:=?_)
    | refine Ar (hl:=?_)
    | refine Au (hl:=?_))
   apply Ag.nil
   refine EA (k:=900) (ss:= [(7,.one (Ax 45 K)),(8,Aj (p:Nat)),(10,.one (.ptr 10 0)),(11,Aj q1),(12,.one (Ax G1 B)),(13,Aj e1),(14,Aj q1),(15,.one (Ax G2 B)),(16,Aj e1)]) (bs:= [(10,nmC 145 t)]) (ns:= [.v (.bool false),.v (.slice none 0 0),.v (.slice none 0 0)]) hD ?_ ?_ ?_
   ·exact ⟨by omega,by omega⟩
   ·exact BH
   repeat (refine Dt rfl ?_;(first|refine Ai (hl:=?_)|refine An (hl:=?_)|refine Ao (hl:=?_));apply Ag.nil)
   refine Du ?_
   refine BW (ss:= [(7,.one (Ax 45 K)),(8,Aj (p:Nat)),(9,.one (.gl 900 (C++ [0]).length 3)),(10,.one (.ptr 10 0)),(11,Aj q1),(12,.one (Ax G1 B)),(13,Aj e1),(14,Aj q1),(15,.one (Ax G2 B)),(16,Aj e1)]) (bs:= [(900,AE (nmD 2) (C++ [0])),(10,nmC 145 t)]) ?_ ?_
   ·exact BH
   generalize C++ [0]=C' at*
   refine Dq 900 hD (ss:= [(7,.one (Ax 45 K)),(8,Aj (p:Nat)),(9,.one (Ax 2 C')),(10,.one (.ptr 10 0)),(11,Aj q1),(12,.one (Ax G1 B)),(13,Aj e1),(14,Aj q1),(15,.one (Ax G2 B)),(16,Aj e1)]) (bs:= [(10,nmC 145 t)]) ?_ ?_
   ·exact NM
   repeat (first
    | refine Ah ?_|refine Ad ?_|refine Ab rfl ?_|refine Ac rfl ?_
    | ((first|refine Al (by kernel_rfl) ?_|refine Aq (by kernel_rfl) (by kernel_rfl) (by kernel_rfl) ?_)
       repeat (first
        | refine A8 (hl:=?_)
        | refine An (hl:=?_)
        | refine Ai (hl:=?_)
        | refine Az (hl:=?_)
        | refine Ao (hl:=?_)
        | refine At (hl:=?_)
        | refine A0 (hl:=?_)
        | refine A5 (hl:=?_)
        | refine AD (hl:=?_)
        | refine AC (hl:=?_)
        | refine Cs (hl:=?_)
        | refine AM (hl:=?_)
        | refine AN (hl:=?_)
        | refine AL (hl:=?_)
        | refine AJ (hl:=?_)
        | refine AI (hl:=?_)
        | refine AK (hl:=?_)
        | refine Ar (hl:=?_)
        | refine Au (hl:=?_)
        | refine Ap hA (hc:=S3) (hl:=?_)
        | refine Ap hA (hc:=S4) (hl:=?_))
       apply Ag.nil;try refine And.intro (by kernel_rfl) ?_)
    | refine Ae ?_|refine Af ?_)
   refine BW (ss:= [(11,Aj q1),(12,.one (Ax G1 B)),(13,Aj e1),(14,Aj q1),(15,.one (Ax G2 B)),(16,Aj e1),(17,.one (.ptr 17 0)),(18,Aj f2),(19,.one (.ptr 19 0)),(20,Aj f2)]) (bs:= [(17,nmC H3 r2),(19,nmC H4 r2)]) ?_ ?_
   ·exact BH
   repeat (first
    | refine Ah ?_|refine Ad ?_|refine Ab rfl ?_|refine Ac rfl ?_
    | ((first|refine Al (by kernel_rfl) ?_|refine Aq (by kernel_rfl) (by kernel_rfl) (by kernel_rfl) ?_)
       repeat (first
        | refine A8 (hl:=?_)
        | refine An (hl:=?_)
        | refine Ai (hl:=?_)
        | refine Az (hl:=?_)
        | refine Ao (hl:=?_)
        | refine At (hl:=?_)
        | refine A0 (hl:=?_)
        | refine A5 (hl:=?_)
        | refine AD (hl:=?_)
        | refine AC (hl:=?_)
        | refine Cs (hl:=?_)
        | refine AM (hl:=?_)
        | refine AN (hl:=?_)
        | refine AL (hl:=?_)
        | refine AJ (hl:=?_)
        | refine AI (hl:=?_)
        | refine AK (hl:=?_)
        | refine Ar (hl:=?_)
        | refine Au (hl:=?_)
        | refine Ap hA (hc:=W3) (hl:=?_)
        | refine Ap hA (hc:=W2) (hl:=?_)
        | refine Ap hA (hc:=hA9) (hl:=?_))
       apply Ag.nil;try refine And.intro (by kernel_rfl) ?_)
    | refine Ae ?_|refine Af ?_)
   refine AG (And.intro (Or.inr rfl) ?_)
   exact B7
  ·have w1:=CJ (k:= .i64) (decide_eq_false h8)
   repeat (first
    | refine Ah ?_|refine Ad ?_|refine Ab rfl ?_|refine Ac rfl ?_
    | ((first|refine Al (by kernel_rfl) ?_|refine Aq (by kernel_rfl) (by kernel_rfl) (by kernel_rfl) ?_)
       repeat (first
        | refine A8 (hl:=?_)
        | refine An (hl:=?_)
        | refine Ai (hl:=?_)
        | refine Az (hl:=?_)
        | refine Ao (hl:=?_)
        | refine At (hl:=?_)
        | refine A0 (hl:=?_)
        | refine A5 (hl:=?_)
        | refine AD (hl:=?_)
        | refine AC (hl:=?_)
        | refine Cs (hl:=?_)
        | refine AM (hl:=?_)
        | refine AN (hl:=?_)
        | refine AL (hl:=?_)
        | refine AJ (hl:=?_)
        | refine AI (hl:=?_)
        | refine AK (hl:=?_)
        | refine Ar (hl:=?_)
        | refine Au (hl:=?_)
        | refine Ap hA (hc:=N1) (hl:=?_))
       apply Ag.nil;try refine And.intro (by kernel_rfl) ?_)
    | refine Ae ?_|refine Af ?_)
   refine Dq 900 hD (ss:= [(7,.one (Ax 45 K)),(8,Aj (p:Nat)),(9,.one (Ax 2 C)),(10,.one (.ptr 10 0)),(11,Aj q1),(12,.one (Ax G1 B)),(13,Aj e1),(14,Aj q1),(15,.one (Ax G2 B)),(16,Aj e1)]) (bs:= [(10,nmC 145 t)]) ?_ ?_
   ·exact NM
   repeat (first
    | refine Ah ?_|refine Ad ?_|refine Ab rfl ?_|refine Ac rfl ?_
    | ((first|refine Al (by kernel_rfl) ?_|refine Aq (by kernel_rfl) (by kernel_rfl) (by kernel_rfl) ?_)
       repeat (first
        | refine A8 (hl:=?_)
        | refine An (hl:=?_)
        | refine Ai (hl:=?_)
        | refine Az (hl:=?_)
        | refine Ao (hl:=?_)
        | refine At (hl:=?_)
        | refine A0 (hl:=?_)
        | refine A5 (hl:=?_)
        | refine AD (hl:=?_)
        | refine AC (hl:=?_)
        | refine Cs (hl:=?_)
        | refine AM (hl:=?_)
        | refine AN (hl:=?_)
        | refine AL (hl:=?_)
        | refine AJ (hl:=?_)
        | refine AI (hl:=?_)
        | refine AK (hl:=?_)
        | refine Ar (hl:=?_)
        | refine Au (hl:=?_)
        | refine Ap hA (hc:=S1) (hl:=?_)
        | refine Ap hA (hc:=S2) (hl:=?_))
       apply Ag.nil;try refine And.intro (by kernel_rfl) ?_)
    | refine Ae ?_|refine Af ?_)
   refine BW (ss:= [(11,Aj q1),(12,.one (Ax G1 B)),(13,Aj e1),(14,Aj q1),(15,.one (Ax G2 B)),(16,Aj e1),(17,.one (.ptr 17 0)),(18,Aj f1),(19,.one (.ptr 19 0)),(20,Aj f1)]) (bs:= [(17,nmC H1 r1),(19,nmC H2 r1)]) ?_ ?_
   ·exact BH
   repeat (first
    | refine Ah ?_|refine Ad ?_|refine Ab rfl ?_|refine Ac rfl ?_
    | ((first|refine Al (by kernel_rfl) ?_|refine Aq (by kernel_rfl) (by kernel_rfl) (by kernel_rfl) ?_)
       repeat (first
        | refine A8 (hl:=?_)
        | refine An (hl:=?_)
        | refine Ai (hl:=?_)
        | refine Az (hl:=?_)
        | refine Ao (hl:=?_)
        | refine At (hl:=?_)
        | refine A0 (hl:=?_)
        | refine A5 (hl:=?_)
        | refine AD (hl:=?_)
        | refine AC (hl:=?_)
        | refine Cs (hl:=?_)
        | refine AM (hl:=?_)
        | refine AN (hl:=?_)
        | refine AL (hl:=?_)
        | refine AJ (hl:=?_)
        | refine AI (hl:=?_)
        | refine AK (hl:=?_)
        | refine Ar (hl:=?_)
        | refine Au (hl:=?_)
        | refine Ap hA (hc:=W3) (hl:=?_)
        | refine Ap hA (hc:=W1) (hl:=?_)
        | refine Ap hA (hc:=hA9) (hl:=?_))
       apply Ag.nil;try refine And.intro (by kernel_rfl) ?_)
    | refine Ae ?_|refine Af ?_)
   refine AG (And.intro (Or.inr rfl) ?_)
   exact B7
 ·have D1:=light' (decide_eq_false hL)
  refine As Tryz.func6 rfl rfl rfl rfl rfl rfl ?_
  intro W0 base D μ0 hA hD
  repeat (first
   | refine Ah ?_|refine Ad ?_|refine Ab rfl ?_|refine Ac rfl ?_
   | ((first|refine Al (by kernel_rfl) ?_|refine Aq (by kernel_rfl) (by kernel_rfl) (by kernel_rfl) ?_)
      repeat (first
       | refine A8 (hl:=?_)
       | refine An (hl:=?_)
       | refine Ai (hl:=?_)
       | refine Az (hl:=?_)
       | refine Ao (hl:=?_)
       | refine At (hl:=?_)
       | refine A0 (hl:=?_)
       | refine A5 (hl:=?_)
       | refine AD (hl:=?_)
       | refine AC (hl:=?_)
       | refine Cs (hl:=?_)
       | refine AM (hl:=?_)
       | refine AN (hl:=?_)
       | refine AL (hl:=?_)
       | refine AJ (hl:=?_)
       | refine AI (hl:=?_)
       | refine AK (hl:=?_)
       | refine Ar (hl:=?_)
       | refine Au (hl:=?_)
       | refine Ap hA (hc:=D1) (hl:=?_)
       | refine Ap hA (hc:=hA9) (hl:=?_))
      apply Ag.nil;try refine And.intro (by kernel_rfl) ?_)
   | refine Ae ?_|refine Af ?_)
  refine AG (And.intro (Or.inr rfl) ?_)
  exact B7
end bvalues
end Go.Proofs.YtkmalkcgkcpcmaaGreatDoor
