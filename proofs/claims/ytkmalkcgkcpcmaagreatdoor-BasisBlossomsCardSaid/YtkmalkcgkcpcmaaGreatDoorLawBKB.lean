/-
  BasisBlossoms, by contracts.
-/
import Derived.Test.YtkmalkcgkcpcmaaGreatDoorIh
namespace Go.Proofs.YtkmalkcgkcpcmaaGreatDoor
open List renaming getElem?_eq_getElem→Yi
open Go.RowKit
set_option linter.unusedVariables false
set_option linter.unusedSimpArgs false
set_option maxRecDepth 20000
set_option maxHeartbeats 4000000
namespace bblossoms
theorem light' {l:List Int} {b:Bool} (h:decide ((l.length:Int)≤500)=b):Ctr Tryz.prog Amb 10 [.one (.ints l)] (.one (.v (.bool b))):=h▸Qu l
theorem same_r {j k:Nat} {x:Rat} :Ctr Tryz.prog Amb 34 [nm j x,nm k x] (.one (.v (.bool true))):=by
 have:=Hr (j:=j) (k:=k) (x:=x) (y:=x)
 rwa [decide_eq_true rfl] at this
def R9 (args:List Int) (i:Nat):Rat:=if 2*i+1<args.length then Rw (args.getD (2*i) 0) (args.getD (2*i+1) 0) else 0
theorem law {l args:List Int} {a n:Int} (hb: ∀x∈l,-9223372036854775808≤x∧x<9223372036854775808) (hb2: ∀x∈args,-9223372036854775808≤x∧x<9223372036854775808) (ha1: -9223372036854775808≤a) (ha2:a<9223372036854775808) (hn1: -9223372036854775808≤n) (hn2:n<9223372036854775808):
  Ctr Tryz.prog Amb 7 [.one (.ints l),.one (.ints args),.one (.v (.int .i64 a)),.one (.v (.int .i64 n))] (.one (.v (.bool true))):=by
 have hA9:=UB
 by_cases hL:(l.length:Int)≤500
 ·by_cases hL2:(args.length:Int)>12
  ·have D1:=light' (decide_eq_true hL)
   have b0:=D4 (k:= .i64) (decide_eq_true hL2)
   refine As Tryz.func7 rfl rfl rfl rfl rfl rfl ?_
   intro W0 base D μ0 hA hD
   repeat (first|refine Ah ?_|refine Ad ?_|refine Ab rfl ?_|refine Ac rfl ?_|refine AT ?_|refine AU ?_|refine Ae ?_|refine Af ?_)
   refine AG (And.intro (Or.inr rfl) ?_)
   exact B7
  ·have D1:=light' (decide_eq_true hL)
   have b0:=D4 (k:= .i64) (decide_eq_false hL2)
   have hl:l.length≤1000000:=by omega
   have M1:=VS hb hl
   have hp:=G5 l
   obtain ⟨k1,k2⟩:=G6 l
   obtain ⟨t0,u,mid,hk⟩:=Np l
   have hCl:(Ju l).length=(G7 l).length-Dr l-1:=by unfold Ju;simp
   generalize Ju l=C at*
   generalize G7 l=K at*
   generalize Dr l=p at*
   have N1:=He (n:=n) (m:=12) hn1 hn2 (by decide) (by decide)
   have s2:=AZ (k:= .i64) (show (IntKind.i64).wrap ((K.length:Int)+2)=((K.length+2:Nat):Int) from IntWalk.i64_in _ (by omega))
   have N2:=He (n:=a) (m:=((K.length+2:Nat):Int)) ha1 ha2 (by omega) (by omega)
   have hm1:0≤a % ((K.length+2:Nat):Int):=Int.emod_nonneg _ (by omega)
   have hm2:a % ((K.length+2:Nat):Int)<((K.length+2:Nat):Int):=Int.emod_lt_of_pos _ (by omega)
   generalize a % ((K.length+2:Nat):Int)=b at*
   have s3:=BB (k:= .i64) (show (IntKind.i64).wrap (b-1)=b-1 from IntWalk.i64_in _ (by omega))
   obtain ⟨at',hat⟩: ∃q,q=b-1:=⟨_,rfl⟩
   rw [←hat] at s3
   obtain ⟨X,hX⟩: ∃X,X=tab p (R9 args):=⟨_,rfl⟩
   have hXl:X.length=p:=by rw [hX];simp
   obtain ⟨G1,r1,e1,B1,B2⟩:=JZ (j:=45) (jc:=2) (jt:=2) (C:=C) (X:=X) (a:=at') hk (by omega) (by omega) (by decide) (by decide) (by decide)
   obtain ⟨G2,r2,e2,B3,B4⟩:=JZ (j:=45) (jc:=2) (jt:=2) (C:=C) (X:=(X.take X.length).drop 1) (a:=at') hk (by omega) (by omega) (by decide) (by decide) (by decide)
   obtain ⟨G3,r3,e3,B5,B6⟩:=JZ (j:=45) (jc:=2) (jt:=2) (C:=(C.take C.length).drop 1) (X:=X) (a:=at') hk (by omega) (by omega) (by decide) (by decide) (by decide)
   have q1:=same_r (j:=G1) (k:=G1) (x:=r1)
   have q2:=same_r (j:=G2) (k:=G2) (x:=r2)
   have q3:=same_r (j:=G3) (k:=G3) (x:=r3)
   have be1:=CJ (k:= .i64) (decide_eq_true (rfl:e1=e1))
   have be2:=CJ (k:= .i64) (decide_eq_true (rfl:e2=e2))
   have be3:=CJ (k:= .i64) (decide_eq_true (rfl:e3=e3))
   clear hm1 hm2 hat hk
   refine As Tryz.func7 rfl rfl rfl rfl rfl rfl ?_
   intro W0 base D μ0 hA hD
   repeat (first|refine Ah ?_|refine Ad ?_|refine Ab rfl ?_|refine Ac rfl ?_|refine AT ?_|refine AU ?_|refine Ae ?_|refine Af ?_)
   refine Cq (fun m σ=> ∃(i:Nat) (done:List Rat),m=p-i∧i≤p∧done=tab i (R9 args)∧Wk ⟨W0,base,D,108,[],μ0⟩ σ [(1,.one (.ints args)),(2,.one (.v (.int .i64 a))),(3,.one (.v (.int .i64 n))),(9,.one (Ax 45 K)),(10,Aj (p:Nat)),(11,.one (Ax 2 C)),(12,.one (.gl 900 done.length 3)),(13,Aj (i:Nat))] [(900,AE (nmD 2) done)]) (n:=p) ⟨0,[],by omega,by omega,rfl,?_⟩ ?_
   ·exact BH
   clear M1 b0 D1
   intro m σ hI
   obtain ⟨i,done,hm,hi0,hdone,hw⟩:=hI
   refine BW hw ?_
   clear hw
   have hdl:done.length=i:=by rw [hdone];simp
   by_cases hi:i<p
   ·have bi:=BO (k:= .i64) (decide_eq_true (show ((i:Nat):Int)<((p:Nat):Int) by omega))
    have hin:=AZ (k:= .i64) (show (IntKind.i64).wrap ((i:Int)+1)=((i+1:Nat):Int) from IntWalk.i64_in _ (by omega))
    have m1:FF .mul .i64 2 ((i:Nat):Int)=some (.int .i64 ((2*i:Nat):Int)):=by
     show some (Value.int .i64 ((IntKind.i64).wrap (2*((i:Nat):Int))))=_
     rw [show (2*((i:Nat):Int))=((2*i:Nat):Int) by omega,show (IntKind.i64).wrap ((2*i:Nat):Int)=((2*i:Nat):Int) from IntWalk.i64_in _ (by omega)]
    have a1:=AZ (k:= .i64) (show (IntKind.i64).wrap (((2*i:Nat):Int)+1)=((2*i+1:Nat):Int) from IntWalk.i64_in _ (by omega))
    have ht:done++ [R9 args i]=tab (i+1) (R9 args):=by rw [hdone];exact FJ
    clear N1 N2 B1 B2 B3 B4 B5 B6 q1 q2 q3 be1 be2 be3 s2 s3 hX hXl
    by_cases hc:2*i+1<args.length
    ·have bc:=BO (k:= .i64) (decide_eq_true (show ((2*i+1:Nat):Int)<((args.length:Nat):Int) by omega))
     have hv:R9 args i=Rw (args.getD (2*i) 0) (args.getD (2*i+1) 0):=if_pos hc
     have hxa:args[((2*i:Nat):Int).toNat]?=some (args.getD (2*i) 0):=by
      rw [Int.toNat_natCast,List.getD_eq_getElem?_getD,Yi (by omega)];rfl
     have hxb:args[((2*i+1:Nat):Int).toNat]?=some (args.getD (2*i+1) 0):=by
      rw [Int.toNat_natCast,List.getD_eq_getElem?_getD,Yi hc];rfl
     have c1:=hb2 _ (List.mem_of_getElem? hxa)
     have c2:=hb2 _ (List.mem_of_getElem? hxb)
     have R1:=Wl (n:=args.getD (2*i) 0) (d:=args.getD (2*i+1) 0) c1.1 c1.2 c2.1 c2.2
     rw [hv] at ht
     generalize Rw (args.getD (2*i) 0) (args.getD (2*i+1) 0)=x at*
     generalize args.getD (2*i) 0=y at*
     generalize args.getD (2*i+1) 0=z at*
     repeat (first
      | refine Ah ?_|refine Ad ?_|refine Ab rfl ?_|refine Ac rfl ?_
      | ((first|refine Al (by kernel_rfl) ?_|refine Aq (by kernel_rfl) (by kernel_rfl) (by kernel_rfl) ?_)
         repeat (first
          | refine A8 (hl:=?_)
          | refine An (hl:=?_)
          | refine Ai (hl:=?_)
          | refine Az (hl:=?_)
          | refine Ao (hl:=?_)
          | refine At (hl:=?_)
          | refine A0 (hl:=?_)
          | refine A5 (hl:=?_)
          | refine AD (hl:=?_)
          | refine AC (hl:=?_)
          | refine Ak (hl:=?_)
          | refine Cs (hl:=?_)
          | refine AM (hl:=?_)
          | refine AN (hl:=?_)
          | refine AL (hl:=?_)
          | refine AJ (hl:=?_)
          | refine AI (hl:=?_)
          | refine F5 (hl:=?_)
          | refine AK (hl:=?_)
          | refine AH (hl:=?_)
          | refine Ar (hl:=?_)
          | refine Au (hl:=?_)
          | refine Ap hA (hc:=R1) (hl:=?_)
          | (apply Ip;(case hg=>first|exact trivial|exact rfl);(case hd=>exact rfl);(case hx=>exact rfl);(case hy=>exact rfl);(case hi=>omega);(case hc=>first|exact hxa|exact hxb)))
         apply Ag.nil;try refine And.intro (by kernel_rfl) ?_)
      | refine Ae ?_|refine Af ?_)
     refine BW (ss:= [(1,.one (.ints args)),(2,.one (.v (.int .i64 a))),(3,.one (.v (.int .i64 n))),(9,.one (Ax 45 K)),(10,Aj (p:Nat)),(11,.one (Ax 2 C)),(12,.one (.gl 900 done.length 3)),(13,Aj (i:Nat)),(14,.one (.ptr 14 0))]) (bs:= [(900,AE (nmD 2) done),(14,nmC 2 x)]) ?_ ?_
     ·exact BH
     try refine Ah ?_
     refine Cd 3 (by simp only [List.take_succ_cons,List.take_zero,List.drop_succ_cons,List.drop_zero];exact ⟨rfl,rfl⟩) (by kernel_rfl) ?_
     repeat (first
      | refine A8 (hl:=?_)
      | refine An (hl:=?_)
      | refine Ai (hl:=?_)
      | refine Az (hl:=?_)
      | refine Ao (hl:=?_)
      | refine At (hl:=?_)
      | refine A0 (hl:=?_)
      | refine A5 (hl:=?_)
      | refine AD (hl:=?_)
      | refine AC (hl:=?_)
      | refine Ak (hl:=?_)
      | refine Cs (hl:=?_)
      | refine AM (hl:=?_)
      | refine AN (hl:=?_)
      | refine AL (hl:=?_)
      | refine AJ (hl:=?_)
      | refine AI (hl:=?_)
      | refine AK (hl:=?_)
      | refine AH (hl:=?_)
      | refine Ar (hl:=?_)
      | refine Au (hl:=?_))
     apply Ag.nil
     refine EA (k:=900) (ss:= [(1,.one (.ints args)),(2,.one (.v (.int .i64 a))),(3,.one (.v (.int .i64 n))),(9,.one (Ax 45 K)),(10,Aj (p:Nat)),(11,.one (Ax 2 C)),(13,Aj (i:Nat))]) (bs:= []) (ns:=(nmC 2 x)) hD ?_ ?_ ?_
     ·exact ⟨by omega,by omega⟩
     ·exact BH
     repeat (refine Dt rfl ?_;(first|refine Ai (hl:=?_)|refine An (hl:=?_)|refine Ao (hl:=?_));apply Ag.nil)
     refine Du ?_
     repeat (first|refine Ah ?_|refine Ad ?_|refine Ab rfl ?_|refine Ac rfl ?_|refine AT ?_|refine AU ?_|refine Ae ?_|refine Af ?_)
     refine ⟨m-1,by omega,i+1,done++ [x],by omega,by omega,ht,?_⟩
     exact BH
    ·have bc:=BO (k:= .i64) (decide_eq_false (show ¬((2*i+1:Nat):Int)<((args.length:Nat):Int) by omega))
     have hv:R9 args i=0:=if_neg hc
     rw [hv] at ht
     repeat (first|refine Ah ?_|refine Ad ?_|refine Ab rfl ?_|refine Ac rfl ?_|refine AT ?_|refine AU ?_|refine Ae ?_|refine Af ?_)
     refine BW (ss:= [(1,.one (.ints args)),(2,.one (.v (.int .i64 a))),(3,.one (.v (.int .i64 n))),(9,.one (Ax 45 K)),(10,Aj (p:Nat)),(11,.one (Ax 2 C)),(12,.one (.gl 900 done.length 3)),(13,Aj (i:Nat)),(14,.one (.ptr 14 0))]) (bs:= [(900,AE (nmD 2) done),(14,nmC 2 0)]) ?_ ?_
     ·exact BH
     try refine Ah ?_
     refine Cd 3 (by simp only [List.take_succ_cons,List.take_zero,List.drop_succ_cons,List.drop_zero];exact ⟨rfl,rfl⟩) (by kernel_rfl) ?_
     repeat (first
      | refine A8 (hl:=?_)
      | refine An (hl:=?_)
      | refine Ai (hl:=?_)
      | refine Az (hl:=?_)
      | refine Ao (hl:=?_)
      | refine At (hl:=?_)
      | refine A0 (hl:=?_)
      | refine A5 (hl:=?_)
      | refine AD (hl:=?_)
      | refine AC (hl:=?_)
      | refine Ak (hl:=?_)
      | refine Cs (hl:=?_)
      | refine AM (hl:=?_)
      | refine AN (hl:=?_)
      | refine AL (hl:=?_)
      | refine AJ (hl:=?_)
      | refine AI (hl:=?_)
      | refine AK (hl:=?_)
      | refine AH (hl:=?_)
      | refine Ar (hl:=?_)
      | refine Au (hl:=?_))
     apply Ag.nil
     refine EA (k:=900) (ss:= [(1,.one (.ints args)),(2,.one (.v (.int .i64 a))),(3,.one (.v (.int .i64 n))),(9,.one (Ax 45 K)),(10,Aj (p:Nat)),(11,.one (Ax 2 C)),(13,Aj (i:Nat))]) (bs:= []) (ns:=(nmC 2 0)) hD ?_ ?_ ?_
     ·exact ⟨by omega,by omega⟩
     ·exact BH
     repeat (refine Dt rfl ?_;(first|refine Ai (hl:=?_)|refine An (hl:=?_)|refine Ao (hl:=?_));apply Ag.nil)
     refine Du ?_
     repeat (first|refine Ah ?_|refine Ad ?_|refine Ab rfl ?_|refine Ac rfl ?_|refine AT ?_|refine AU ?_|refine Ae ?_|refine Af ?_)
     refine ⟨m-1,by omega,i+1,done++ [0],by omega,by omega,ht,?_⟩
     exact BH
   ·have bi:=BO (k:= .i64) (decide_eq_false (show ¬((i:Nat):Int)<((p:Nat):Int) by omega))
    obtain rfl:i=p:=by omega
    rw [←hX] at hdone
    repeat (first
     | refine Ah ?_|refine Ad ?_|refine Ab rfl ?_|refine Ac rfl ?_
     | ((first|refine Al (by kernel_rfl) ?_|refine Aq (by kernel_rfl) (by kernel_rfl) (by kernel_rfl) ?_)
        repeat (first
         | refine A8 (hl:=?_)
         | refine An (hl:=?_)
         | refine Ai (hl:=?_)
         | refine Az (hl:=?_)
         | refine Ao (hl:=?_)
         | refine At (hl:=?_)
         | refine A0 (hl:=?_)
         | refine A5 (hl:=?_)
         | refine AD (hl:=?_)
         | refine AC (hl:=?_)
         | refine Ak (hl:=?_)
         | refine Cs (hl:=?_)
         | refine AM (hl:=?_)
         | refine AN (hl:=?_)
         | refine AL (hl:=?_)
         | refine AJ (hl:=?_)
         | refine AI (hl:=?_)
         | refine AK (hl:=?_)
         | refine AH (hl:=?_)
         | refine Ar (hl:=?_)
         | refine Au (hl:=?_))
        apply Ag.nil;try refine And.intro (by kernel_rfl) ?_)
     | refine Ae ?_|refine Af ?_)
    refine Dq 900 hD (ss:= [(2,.one (.v (.int .i64 a))),(3,.one (.v (.int .i64 n))),(9,.one (Ax 45 K)),(10,Aj (i:Nat)),(11,.one (Ax 2 C)),(12,.one (Ax 2 done))]) (bs:= []) ?_ ?_
    ·exact NM
    subst hdone
    by_cases h10:n % 12=10
    ·have w1:=CJ (k:= .i64) (decide_eq_true h10)
     repeat (first
      | refine Ah ?_|refine Ad ?_|refine Ab rfl ?_|refine Ac rfl ?_
      | ((first|refine Al (by kernel_rfl) ?_|refine Aq (by kernel_rfl) (by kernel_rfl) (by kernel_rfl) ?_)
         repeat (first
          | refine A8 (hl:=?_)
          | refine An (hl:=?_)
          | refine Ai (hl:=?_)
          | refine Az (hl:=?_)
          | refine Ao (hl:=?_)
          | refine At (hl:=?_)
          | refine A0 (hl:=?_)
          | refine A5 (hl:=?_)
          | refine AD (hl:=?_)
          | refine AC (hl:=?_)
          | refine Ak (hl:=?_)
          | refine Cs (hl:=?_)
          | refine AM (hl:=?_)
          | refine AN (hl:=?_)
          | refine AL (hl:=?_)
          | refine AJ (hl:=?_)
          | refine AI (hl:=?_)
          | refine AK (hl:=?_)
          | refine AH (hl:=?_)
          | refine Ar (hl:=?_)
          | refine Au (hl:=?_)
          | refine Ap hA (hc:=N1) (hl:=?_)
          | refine Ap hA (hc:=N2) (hl:=?_)
          | refine Hl (la:=done) (f:=nmD 2) (a:=1) (b:=done.length) (by omega) (by omega) (.some rfl rfl) .none (hl:=?_))
         apply Ag.nil;try refine And.intro (by kernel_rfl) ?_)
      | refine Ae ?_|refine Af ?_)
     refine BW (ss:= [(9,.one (Ax 45 K)),(10,Aj (i:Nat)),(11,.one (Ax 2 C)),(12,.one (Ax 2 ((done.take done.length).drop 1))),(15,Aj at')]) (bs:= []) ?_ ?_
     ·exact BH
     repeat (first
      | refine Ah ?_|refine Ad ?_|refine Ab rfl ?_|refine Ac rfl ?_
      | ((first|refine Al (by kernel_rfl) ?_|refine Aq (by kernel_rfl) (by kernel_rfl) (by kernel_rfl) ?_)
         repeat (first
          | refine A8 (hl:=?_)
          | refine An (hl:=?_)
          | refine Ai (hl:=?_)
          | refine Az (hl:=?_)
          | refine Ao (hl:=?_)
          | refine At (hl:=?_)
          | refine A0 (hl:=?_)
          | refine A5 (hl:=?_)
          | refine AD (hl:=?_)
          | refine AC (hl:=?_)
          | refine Ak (hl:=?_)
          | refine Cs (hl:=?_)
          | refine AM (hl:=?_)
          | refine AN (hl:=?_)
          | refine AL (hl:=?_)
          | refine AJ (hl:=?_)
          | refine AI (hl:=?_)
          | refine AK (hl:=?_)
          | refine AH (hl:=?_)
          | refine Ar (hl:=?_)
          | refine Au (hl:=?_)
          | refine Ap hA (hc:=B3) (hl:=?_)
          | refine Ap hA (hc:=B4) (hl:=?_))
         apply Ag.nil;try refine And.intro (by kernel_rfl) ?_)
      | refine Ae ?_|refine Af ?_)
     refine BW (ss:= [(16,.one (.ptr 16 0)),(17,Aj e2),(18,.one (.ptr 18 0)),(19,Aj e2)]) (bs:= [(16,nmC G2 r2),(18,nmC G2 r2)]) ?_ ?_
     ·exact BH
     repeat (first
      | refine Ah ?_|refine Ad ?_|refine Ab rfl ?_|refine Ac rfl ?_
      | ((first|refine Al (by kernel_rfl) ?_|refine Aq (by kernel_rfl) (by kernel_rfl) (by kernel_rfl) ?_)
         repeat (first
          | refine A8 (hl:=?_)
          | refine An (hl:=?_)
          | refine Ai (hl:=?_)
          | refine Az (hl:=?_)
          | refine Ao (hl:=?_)
          | refine At (hl:=?_)
          | refine A0 (hl:=?_)
          | refine A5 (hl:=?_)
          | refine AD (hl:=?_)
          | refine AC (hl:=?_)
          | refine Ak (hl:=?_)
          | refine Cs (hl:=?_)
          | refine AM (hl:=?_)
          | refine AN (hl:=?_)
          | refine AL (hl:=?_)
          | refine AJ (hl:=?_)
          | refine AI (hl:=?_)
          | refine AK (hl:=?_)
          | refine AH (hl:=?_)
          | refine Ar (hl:=?_)
          | refine Au (hl:=?_)
          | refine Ap hA (hc:=q2) (hl:=?_)
          | refine Ap hA (hc:=hA9) (hl:=?_))
         apply Ag.nil;try refine And.intro (by kernel_rfl) ?_)
      | refine Ae ?_|refine Af ?_)
     refine AG (And.intro (Or.inr rfl) ?_)
     exact B7
    ·have w1:=CJ (k:= .i64) (decide_eq_false h10)
     by_cases h11:n % 12=11
     ·have w2:=CJ (k:= .i64) (decide_eq_true h11)
      repeat (first
       | refine Ah ?_|refine Ad ?_|refine Ab rfl ?_|refine Ac rfl ?_
       | ((first|refine Al (by kernel_rfl) ?_|refine Aq (by kernel_rfl) (by kernel_rfl) (by kernel_rfl) ?_)
          repeat (first
           | refine A8 (hl:=?_)
           | refine An (hl:=?_)
           | refine Ai (hl:=?_)
           | refine Az (hl:=?_)
           | refine Ao (hl:=?_)
           | refine At (hl:=?_)
           | refine A0 (hl:=?_)
           | refine A5 (hl:=?_)
           | refine AD (hl:=?_)
           | refine AC (hl:=?_)
           | refine Ak (hl:=?_)
           | refine Cs (hl:=?_)
           | refine AM (hl:=?_)
           | refine AN (hl:=?_)
           | refine AL (hl:=?_)
           | refine AJ (hl:=?_)
           | refine AI (hl:=?_)
           | refine AK (hl:=?_)
           | refine AH (hl:=?_)
           | refine Ar (hl:=?_)
           | refine Au (hl:=?_)
           | refine Ap hA (hc:=N1) (hl:=?_)
           | refine Ap hA (hc:=N2) (hl:=?_)
           | refine Hl (la:=C) (f:=nmD 2) (a:=1) (b:=C.length) (by omega) (by omega) (.some rfl rfl) .none (hl:=?_))
          apply Ag.nil;try refine And.intro (by kernel_rfl) ?_)
       | refine Ae ?_|refine Af ?_)
      refine BW (ss:= [(9,.one (Ax 45 K)),(10,Aj (i:Nat)),(11,.one (Ax 2 ((C.take C.length).drop 1))),(12,.one (Ax 2 done)),(15,Aj at')]) (bs:= []) ?_ ?_
      ·exact BH
      repeat (first
       | refine Ah ?_|refine Ad ?_|refine Ab rfl ?_|refine Ac rfl ?_
       | ((first|refine Al (by kernel_rfl) ?_|refine Aq (by kernel_rfl) (by kernel_rfl) (by kernel_rfl) ?_)
          repeat (first
           | refine A8 (hl:=?_)
           | refine An (hl:=?_)
           | refine Ai (hl:=?_)
           | refine Az (hl:=?_)
           | refine Ao (hl:=?_)
           | refine At (hl:=?_)
           | refine A0 (hl:=?_)
           | refine A5 (hl:=?_)
           | refine AD (hl:=?_)
           | refine AC (hl:=?_)
           | refine Ak (hl:=?_)
           | refine Cs (hl:=?_)
           | refine AM (hl:=?_)
           | refine AN (hl:=?_)
           | refine AL (hl:=?_)
           | refine AJ (hl:=?_)
           | refine AI (hl:=?_)
           | refine AK (hl:=?_)
           | refine AH (hl:=?_)
           | refine Ar (hl:=?_)
           | refine Au (hl:=?_)
           | refine Ap hA (hc:=B5) (hl:=?_)
           | refine Ap hA (hc:=B6) (hl:=?_))
          apply Ag.nil;try refine And.intro (by kernel_rfl) ?_)
       | refine Ae ?_|refine Af ?_)
      refine BW (ss:= [(16,.one (.ptr 16 0)),(17,Aj e3),(18,.one (.ptr 18 0)),(19,Aj e3)]) (bs:= [(16,nmC G3 r3),(18,nmC G3 r3)]) ?_ ?_
      ·exact BH
      repeat (first
       | refine Ah ?_|refine Ad ?_|refine Ab rfl ?_|refine Ac rfl ?_
       | ((first|refine Al (by kernel_rfl) ?_|refine Aq (by kernel_rfl) (by kernel_rfl) (by kernel_rfl) ?_)
          repeat (first
           | refine A8 (hl:=?_)
           | refine An (hl:=?_)
           | refine Ai (hl:=?_)
           | refine Az (hl:=?_)
           | refine Ao (hl:=?_)
           | refine At (hl:=?_)
           | refine A0 (hl:=?_)
           | refine A5 (hl:=?_)
           | refine AD (hl:=?_)
           | refine AC (hl:=?_)
           | refine Ak (hl:=?_)
           | refine Cs (hl:=?_)
           | refine AM (hl:=?_)
           | refine AN (hl:=?_)
           | refine AL (hl:=?_)
           | refine AJ (hl:=?_)
           | refine AI (hl:=?_)
           | refine AK (hl:=?_)
           | refine AH (hl:=?_)
           | refine Ar (hl:=?_)
           | refine Au (hl:=?_)
           | refine Ap hA (hc:=q3) (hl:=?_)
           | refine Ap hA (hc:=hA9) (hl:=?_))
          apply Ag.nil;try refine And.intro (by kernel_rfl) ?_)
       | refine Ae ?_|refine Af ?_)
      refine AG (And.intro (Or.inr rfl) ?_)
      exact B7
     ·have w2:=CJ (k:= .i64) (decide_eq_false h11)
      repeat (first
       | refine Ah ?_|refine Ad ?_|refine Ab rfl ?_|refine Ac rfl ?_
       | ((first|refine Al (by kernel_rfl) ?_|refine Aq (by kernel_rfl) (by kernel_rfl) (by kernel_rfl) ?_)
          repeat (first
           | refine A8 (hl:=?_)
           | refine An (hl:=?_)
           | refine Ai (hl:=?_)
           | refine Az (hl:=?_)
           | refine Ao (hl:=?_)
           | refine At (hl:=?_)
           | refine A0 (hl:=?_)
           | refine A5 (hl:=?_)
           | refine AD (hl:=?_)
           | refine AC (hl:=?_)
           | refine Ak (hl:=?_)
           | refine Cs (hl:=?_)
           | refine AM (hl:=?_)
           | refine AN (hl:=?_)
           | refine AL (hl:=?_)
           | refine AJ (hl:=?_)
           | refine AI (hl:=?_)
           | refine AK (hl:=?_)
           | refine AH (hl:=?_)
           | refine Ar (hl:=?_)
           | refine Au (hl:=?_)
           | refine Ap hA (hc:=N1) (hl:=?_)
           | refine Ap hA (hc:=N2) (hl:=?_))
          apply Ag.nil;try refine And.intro (by kernel_rfl) ?_)
       | refine Ae ?_|refine Af ?_)
      refine BW (ss:= [(9,.one (Ax 45 K)),(10,Aj (i:Nat)),(11,.one (Ax 2 C)),(12,.one (Ax 2 done)),(15,Aj at')]) (bs:= []) ?_ ?_
      ·exact BH
      repeat (first
       | refine Ah ?_|refine Ad ?_|refine Ab rfl ?_|refine Ac rfl ?_
       | ((first|refine Al (by kernel_rfl) ?_|refine Aq (by kernel_rfl) (by kernel_rfl) (by kernel_rfl) ?_)
          repeat (first
           | refine A8 (hl:=?_)
           | refine An (hl:=?_)
           | refine Ai (hl:=?_)
           | refine Az (hl:=?_)
           | refine Ao (hl:=?_)
           | refine At (hl:=?_)
           | refine A0 (hl:=?_)
           | refine A5 (hl:=?_)
           | refine AD (hl:=?_)
           | refine AC (hl:=?_)
           | refine Ak (hl:=?_)
           | refine Cs (hl:=?_)
           | refine AM (hl:=?_)
           | refine AN (hl:=?_)
           | refine AL (hl:=?_)
           | refine AJ (hl:=?_)
           | refine AI (hl:=?_)
           | refine AK (hl:=?_)
           | refine AH (hl:=?_)
           | refine Ar (hl:=?_)
           | refine Au (hl:=?_)
           | refine Ap hA (hc:=B1) (hl:=?_)
           | refine Ap hA (hc:=B2) (hl:=?_))
          apply Ag.nil;try refine And.intro (by kernel_rfl) ?_)
       | refine Ae ?_|refine Af ?_)
      refine BW (ss:= [(16,.one (.ptr 16 0)),(17,Aj e1),(18,.one (.ptr 18 0)),(19,Aj e1)]) (bs:= [(16,nmC G1 r1),(18,nmC G1 r1)]) ?_ ?_
      ·exact BH
      repeat (first
       | refine Ah ?_|refine Ad ?_|refine Ab rfl ?_|refine Ac rfl ?_
       | ((first|refine Al (by kernel_rfl) ?_|refine Aq (by kernel_rfl) (by kernel_rfl) (by kernel_rfl) ?_)
          repeat (first
           | refine A8 (hl:=?_)
           | refine An (hl:=?_)
           | refine Ai (hl:=?_)
           | refine Az (hl:=?_)
           | refine Ao (hl:=?_)
           | refine At (hl:=?_)
           | refine A0 (hl:=?_)
           | refine A5 (hl:=?_)
           | refine AD (hl:=?_)
           | refine AC (hl:=?_)
           | refine Ak (hl:=?_)
           | refine Cs (hl:=?_)
           | refine AM (hl:=?_)
           | refine AN (hl:=?_)
           | refine AL (hl:=?_)
           | refine AJ (hl:=?_)
           | refine AI (hl:=?_)
           | refine AK (hl:=?_)
           | refine AH (hl:=?_)
           | refine Ar (hl:=?_)
           | refine Au (hl:=?_)
           | refine Ap hA (hc:=q1) (hl:=?_)
           | refine Ap hA (hc:=hA9) (hl:=?_))
          apply Ag.nil;try refine And.intro (by kernel_rfl) ?_)
       | refine Ae ?_|refine Af ?_)
      refine AG (And.intro (Or.inr rfl) ?_)
      exact B7
 ·have D1:=light' (decide_eq_false hL)
  refine As Tryz.func7 rfl rfl rfl rfl rfl rfl ?_
  intro W0 base D μ0 hA hD
  repeat (first
   | refine Ah ?_|refine Ad ?_|refine Ab rfl ?_|refine Ac rfl ?_|refine UC 6 ?_
   | ((first|refine Al (by kernel_rfl) ?_|refine Aq (by kernel_rfl) (by kernel_rfl) (by kernel_rfl) ?_)
      repeat (first
       | refine A8 (hl:=?_)
       | refine An (hl:=?_)
       | refine Ai (hl:=?_)
       | refine Az (hl:=?_)
       | refine Ao (hl:=?_)
       | refine At (hl:=?_)
       | refine A0 (hl:=?_)
       | refine A5 (hl:=?_)
       | refine AD (hl:=?_)
       | refine WB (hl:=?_)
       | refine EN 0 (hl:=?_)
       | refine EN 3 (hl:=?_)
       | refine EN 6 (hl:=?_)
       | refine Ak (hl:=?_)
       | refine Cs (hl:=?_)
       | refine AM (hl:=?_)
       | refine AN (hl:=?_)
       | refine AL (hl:=?_)
       | refine AJ (hl:=?_)
       | refine AI (hl:=?_)
       | refine AK (hl:=?_)
       | refine AH (hl:=?_)
       | refine Ar (hl:=?_)
       | refine Au (hl:=?_)
       | refine Kg 1000 (hl:=?_)
       | refine Kg 2000 (hl:=?_)
       | refine Ap hA (hc:=D1) (hl:=?_)
       | refine Ap hA (hc:=hA9) (hl:=?_)
       | (apply FI;(case hg=>exact rfl)))
      apply Ag.nil;try refine And.intro (by kernel_rfl) ?_)
   | refine Ae ?_|refine Af ?_)
  refine AG (And.intro (Or.inr rfl) ?_)
  exact B7
end bblossoms
end Go.Proofs.YtkmalkcgkcpcmaaGreatDoor
