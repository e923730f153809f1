/-
  What the statements about layer 9 make, the coefficients in a block that may grow.
-/
import Derived.Test.YtkmalkcgkcpcmaaGreatDoorIh
namespace Go.Proofs.YtkmalkcgkcpcmaaGreatDoor
open Go.RowKit
set_option linter.unusedVariables false
set_option linter.unusedSimpArgs false
set_option maxRecDepth 20000
set_option maxHeartbeats 1000000
theorem RQ {P:Program} {r1 r2 r3:ResultVar} {R a b c:AV} {σ:St} {ns:List (Nat×List C)} (hn: ∀q∈ns,DX σ [] q∨DX σ (ns.map (·.1)) q) (h1:ResIs P σ r1 a:=by first|exact ResIs.tmp rfl|exact ResIs.cell inferInstance rfl rfl rfl rfl) (h2:ResIs P σ r2 b:=by first|exact ResIs.tmp rfl|exact ResIs.cell inferInstance rfl rfl rfl rfl) (h3:ResIs P σ r3 c:=by first|exact ResIs.tmp rfl|exact ResIs.cell inferInstance rfl rfl rfl rfl) (ha:([a,b,c].all fun a=>match a with | .tup _=>false|_=>true)=true:=by exact rfl) (hE:Ent (.tup [a,b,c]) R:=by exact Ent.of_eq rfl):Fin P [r1,r2,r3] [] R σ∧V8 ns σ:=
 ⟨DU h1 h2 h3 ha hE,fun q hq=>by rcases hn q hq with h|h<;>exact h.1⟩
theorem Ur {l:List Int} (hb: ∀x∈l,-9223372036854775808≤x∧x<9223372036854775808) (hl:l.length≤1000000):
  Es Tryz.prog Amb 36 [.one (.ints l)] [] [(900,AE (nmD 2) (Ju l))] (.tup [.one (Ax 45 (G7 l)),Aj (Dr l:Nat),.one (.gl 900 (Ju l).length 3)]):=by
 obtain ⟨x1,x2,x3⟩:=Co l 0 (m:=4) (by decide)
 have hpb:=G5 l
 obtain ⟨k1,k2⟩:=G6 l
 have N1:=DA (k:=11) (n:=0) (m:=4) hb hl (Nat.zero_le _) (by decide) (by decide)
 have w1:=AZ (k:= .i64) (show (IntKind.i64).wrap (1+(nxt l 0 4).1)=(Dr l:Int) by
  have e:(1+(nxt l 0 4).1)=(Dr l:Int):=by unfold Dr;omega
  rw [e];exact IntWalk.i64_in _ (by omega))
 have K1:=Qv (k:=11) (n:=(nxt l 0 4).2) (p:=Dr l) (inner:=5) hb hl (x3 (Nat.zero_le _)) (by omega) (by omega)
 have NB: ∀q,Ct Tryz.prog Amb 83 [.one (.ptr 11 0)] [(11,BV l (nbP l (Hx l) q),BV l (nbP l (Hx l) (q+1)))] (nm 2 (FS l (nbP l (Hx l) q)).1):=fun q=>Kk hb hl (Pg (Qg l))
 have hK:knR l (Dr l) 5 (nxt l 0 4).2=G7 l:=rfl
 have hN:(knS l (Dr l) 5 (nxt l 0 4).2).2.2=nbP l (Hx l) 0:=rfl
 rw [hK,hN] at K1
 unfold Ju
 generalize G7 l=K at*
 generalize Dr l=p at*
 generalize Hx l=n0 at*
 clear hK hN
 obtain ⟨g,hg⟩: ∃g:Nat→Rat,g=fun q=>(FS l (nbP l n0 q)).1:=⟨_,rfl⟩
 have NB': ∀q,Ct Tryz.prog Amb 83 [.one (.ptr 11 0)] [(11,BV l (nbP l n0 q),BV l (nbP l n0 (q+1)))] (nm 2 (g q)):=fun q=>by rw [hg];exact NB q
 rw [←hg]
 clear NB hg
 obtain ⟨T,hT⟩: ∃T,T=tab (K.length-p-1) g:=⟨_,rfl⟩
 rw [←hT]
 have hne':(!(AE (nmD 2) T).isEmpty)=true:=by
  have hTl:T.length=K.length-p-1:=by rw [hT];simp
  have:(AE (nmD 2) T).length=(K.length-p-1)*3:=by rw [BF (n:=3) inferInstance,hTl]
  cases hb:AE (nmD 2) T with
  | nil=>rw [hb] at this;simp at this;omega
  | cons a b=>rfl
 refine KT Tryz.func36 rfl rfl rfl rfl (by
  simp only [List.all_cons,List.all_nil,Bool.and_true,Bool.and_eq_true]
  exact ⟨by simp [inA,inC],DP _ _,hne'⟩) (by simp [inA,inC]) (by simp) (by simp) ?_
 intro W0 base D μ0 hA hD
 repeat (first
  | refine Ah ?_|refine Ad ?_|refine Ab rfl ?_|refine Ac rfl ?_
  | ((first|refine Al (by kernel_rfl) ?_|refine Aq (by kernel_rfl) (by kernel_rfl) (by kernel_rfl) ?_)
     repeat (first
      | refine An (hl:=?_)
      | refine Ai (hl:=?_)
      | refine AC (hl:=?_)
      | refine AJ (hl:=?_)
      | refine AI (hl:=?_)
      | refine AK (hl:=?_)
      | refine AH (hl:=?_)
      | refine Au (hl:=?_)
      | refine Lg hA (hc:=Up l) (hl:=?_)
      | refine Cj hA (hc:=N1) (hl:=?_)
      | refine Cj hA (hc:=K1) (hl:=?_))
     apply Ag.nil;try refine And.intro (by kernel_rfl) ?_)
  | refine Ae ?_|refine Af ?_)
 refine Cq (fun m σ=> ∃(i:Nat) (done:List Rat),m=K.length-p-1-i∧i≤K.length-p-1∧done=tab i g∧Wk ⟨W0,base,D,35,[],μ0⟩ σ [(5,.one (.ptr 11 0)),(6,Aj (p:Nat)),(7,.one (Ax 45 K)),(8,.one (.gl 900 done.length 3)),(9,Aj (i:Nat))] [(11,BV l (nbP l n0 i)),(900,AE (nmD 2) done)]) (n:=K.length-p-1) ⟨0,[],by omega,by omega,rfl,?_⟩ ?_
 ·exact BH
 clear N1 w1 K1
 intro m σ hI
 obtain ⟨i,done,hm,hi0,hdone,hw⟩:=hI
 refine BW hw ?_
 clear hw
 have hdl:done.length=i:=by rw [hdone];simp
 have s1:=BB (k:= .i64) (show (IntKind.i64).wrap ((K.length:Int)-(p:Int))=((K.length-p:Nat):Int) by rw [show ((K.length:Int)-(p:Int))=((K.length-p:Nat):Int) by omega];exact IntWalk.i64_in _ (by omega))
 have s2:=BB (k:= .i64) (show (IntKind.i64).wrap (((K.length-p:Nat):Int)-1)=((K.length-p-1:Nat):Int) by rw [show ((K.length-p:Nat):Int)-1=((K.length-p-1:Nat):Int) by omega];exact IntWalk.i64_in _ (by omega))
 by_cases hi:i<K.length-p-1
 ·have bi:=BO (k:= .i64) (decide_eq_true (show ((i:Nat):Int)<((K.length-p-1:Nat):Int) by omega))
  have hin:=AZ (k:= .i64) (show (IntKind.i64).wrap ((i:Int)+1)=((i+1:Nat):Int) from IntWalk.i64_in _ (by omega))
  have B1:=NB' i
  have ht:done++ [g i]=tab (i+1) g:=by rw [hdone];exact FJ
  generalize g i=x at B1 ht
  repeat (first
   | refine Ah ?_|refine Ad ?_|refine Ab rfl ?_|refine Ac rfl ?_
   | ((first|refine Al (by kernel_rfl) ?_|refine Aq (by kernel_rfl) (by kernel_rfl) (by kernel_rfl) ?_)
      repeat (first
       | refine An (hl:=?_)
       | refine Ai (hl:=?_)
       | refine AC (hl:=?_)
       | refine AJ (hl:=?_)
       | refine AI (hl:=?_)
       | refine AK (hl:=?_)
       | refine AH (hl:=?_)
       | refine Au (hl:=?_))
      apply Ag.nil;try refine And.intro (by kernel_rfl) ?_)
   | refine Ae ?_|refine Af ?_)
  try refine Ah ?_
  refine Cd 4 (by simp only [List.take_succ_cons,List.take_zero,List.drop_succ_cons,List.drop_zero];exact ⟨rfl,rfl⟩) (by kernel_rfl) ?_
  repeat (first
   | refine An (hl:=?_)
   | refine Ai (hl:=?_)
   | refine AC (hl:=?_)
   | refine AJ (hl:=?_)
   | refine AI (hl:=?_)
   | refine AK (hl:=?_)
   | refine AH (hl:=?_)
   | refine Au (hl:=?_)
   | refine Cj hA (hc:=B1) (hl:=?_))
  apply Ag.nil
  refine EA (k:=900) (ss:= [(5,.one (.ptr 11 0)),(6,Aj (p:Nat)),(7,.one (Ax 45 K)),(9,Aj (i:Nat))]) (bs:= [(11,BV l (nbP l n0 (i+1)))]) (ns:=(nmC 2 x)) hD ?_ ?_ ?_
  ·exact ⟨by omega,by omega⟩
  ·exact BH
  repeat (refine Dt rfl ?_;(first|refine Ai (hl:=?_)|refine An (hl:=?_)|refine Ao (hl:=?_));apply Ag.nil)
  refine Du ?_
  repeat (first
   | refine Ah ?_|refine Ad ?_|refine Ab rfl ?_|refine Ac rfl ?_
   | ((first|refine Al (by kernel_rfl) ?_|refine Aq (by kernel_rfl) (by kernel_rfl) (by kernel_rfl) ?_)
      repeat (first
       | refine An (hl:=?_)
       | refine Ai (hl:=?_)
       | refine AC (hl:=?_)
       | refine AJ (hl:=?_)
       | refine AI (hl:=?_)
       | refine AK (hl:=?_)
       | refine AH (hl:=?_)
       | refine Au (hl:=?_))
      apply Ag.nil;try refine And.intro (by kernel_rfl) ?_)
   | refine Ae ?_|refine Af ?_)
  refine ⟨m-1,by omega,i+1,done++ [x],by omega,by omega,ht,?_⟩
  exact BH
 ·have bi:=BO (k:= .i64) (decide_eq_false (show ¬((i:Nat):Int)<((K.length-p-1:Nat):Int) by omega))
  obtain rfl:i=K.length-p-1:=by omega
  rw [←hT] at hdone
  repeat (first
   | refine Ah ?_|refine Ad ?_|refine Ab rfl ?_|refine Ac rfl ?_
   | ((first|refine Al (by kernel_rfl) ?_|refine Aq (by kernel_rfl) (by kernel_rfl) (by kernel_rfl) ?_)
      repeat (first
       | refine An (hl:=?_)
       | refine Ai (hl:=?_)
       | refine AC (hl:=?_)
       | refine AJ (hl:=?_)
       | refine AI (hl:=?_)
       | refine AK (hl:=?_)
       | refine AH (hl:=?_)
       | refine Au (hl:=?_))
      apply Ag.nil;try refine And.intro (by kernel_rfl) ?_)
   | refine Ae ?_|refine Af ?_)
  subst hdone
  refine AG (And.intro (Or.inr rfl) (RQ ?_))
  exact List.forall_mem_cons.2 ⟨.inl (C6 inferInstance),AR⟩
end Go.Proofs.YtkmalkcgkcpcmaaGreatDoor
