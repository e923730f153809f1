/-
  Dice.Knots, and what the statements about knots make of a list.
-/
import Derived.Test.YtoabfmaagnmlhaaGreatDoorHn
import Derived.Test.YtoabfmaagnmlhaaGreatDoorGs
namespace Go.Proofs.YtoabfmaagnmlhaaGreatDoor
open Go.RowKit
set_option linter.unusedVariables false
set_option linter.unusedSimpArgs false
set_option maxRecDepth 20000
set_option maxHeartbeats 4000000
def knC (l:List Int) (p:Nat) (t:Rat) (ks:List Rat) (n:Nat):Bool×Nat:=
 if ks.length=p+1 then (true,n) else if 0<(nxt l n 3).1 then (true,(nxt l n 3).2) else (decide (t=ks.getD (ks.length-p) 0),(nxt l n 3).2)
def knT (l:List Int) (p:Nat) (t:Rat) (ks:List Rat) (n:Nat):Rat×Nat:=
 if (knC l p t ks n).1 then (t+((1+(nxt l (knC l p t ks n).2 3).1:Int):Rat)/((1+(nxt l (nxt l (knC l p t ks n).2 3).2 2).1:Int):Rat),(nxt l (nxt l (knC l p t ks n).2 3).2 2).2) else (t,(knC l p t ks n).2)
def knL (l:List Int) (p:Nat):Nat→Rat×List Rat×Nat→Rat×List Rat×Nat
 | 0,s=>s
 | m+1,s=>knL l p m ((knT l p s.1 s.2.1 s.2.2).1,s.2.1++ [(knT l p s.1 s.2.1 s.2.2).1],(knT l p s.1 s.2.1 s.2.2).2)
def knS (l:List Int) (p inner:Nat) (n:Nat):Rat×List Rat×Nat:=
 knL l p (nxt l (nxt l n 4).2 (inner+1:Nat)).1.toNat ((((nxt l n 4).1-2:Int):Rat),List.replicate (p+1) (((nxt l n 4).1-2:Int):Rat),(nxt l (nxt l n 4).2 (inner+1:Nat)).2)
def knR (l:List Int) (p inner n:Nat):List Rat:=(knS l p inner n).2.1++List.replicate (p+1) ((knS l p inner n).1+((1:Int):Rat))
theorem JW {l:List Int} {p:Nat} : ∀ {m:Nat} {s:Rat×List Rat×Nat},(knL l p m s).2.1.length=s.2.1.length+m
 | 0,_=>rfl
 | m+1,s=>by
   show (knL l p m _).2.1.length=_
   rw [JW (m:=m),List.length_append];simp;omega
theorem QL {l:List Int} {p n:Nat} {t:Rat} {ks:List Rat} (h:(knC l p t ks n).1=true):knT l p t ks n=(t+((1+(nxt l (knC l p t ks n).2 3).1:Int):Rat)/((1+(nxt l (nxt l (knC l p t ks n).2 3).2 2).1:Int):Rat),(nxt l (nxt l (knC l p t ks n).2 3).2 2).2):=by unfold knT;rw [if_pos h]
theorem Sa {l:List Int} {p n:Nat} {t:Rat} {ks:List Rat} (h: ¬(knC l p t ks n).1=true):knT l p t ks n=(t,(knC l p t ks n).2):=by unfold knT;rw [if_neg h]
theorem Rf {l:List Int} {n p inner:Nat} (hb: ∀x∈l,-9223372036854775808≤x∧x<9223372036854775808) (hl:l.length≤1000000) (hn:n≤l.length) (hp:1≤p∧p≤100) (hi:inner≤1000):
  Cj Tryz.prog Amb 55 [.one (.ptr 901 0),AK (p:Nat),AK (inner:Nat)] [(901,C5 l n,C5 l (knS l p inner n).2.2)] (.one (BF (5*inner+20) (knR l p inner n))):=by
 obtain ⟨a1,a2,a3⟩:=D4 l n (m:=4) (by decide)
 have g1:=a3 hn
 obtain ⟨b1,b2,b3⟩:=D4 l (nxt l n 4).2 (m:=((inner+1:Nat):Int)) (by omega)
 have g2:=b3 g1
 clear a3 b3
 have N1:=Ec (k:=901) (n:=n) (m:=4) hb hl hn (by decide) (by decide)
 have N2:=Ec (k:=901) (n:=(nxt l n 4).2) (m:=((inner+1:Nat):Int)) hb hl g1 (by omega) (by omega)
 have hs:=Cq (k:= .i64) (show (IntKind.i64).wrap ((nxt l n 4).1-2)=(nxt l n 4).1-2 from IntWalk.i64_in _ (by omega))
 have hs2:=BJ (k:= .i64) (show (IntKind.i64).wrap ((inner:Int)+1)=((inner+1:Nat):Int) from IntWalk.i64_in _ (by omega))
 have I1:=Lf (n:=(nxt l n 4).1-2) (by rw [decide_eq_true (show-9223372036854775808≤(nxt l n 4).1-2 by omega),decide_eq_true (show (nxt l n 4).1-2<9223372036854775808 by omega)];rfl)
 have I2:=Lf (n:=1) rfl
 obtain ⟨S,hS⟩: ∃S,S=knS l p inner n:=⟨_,rfl⟩
 unfold knR
 rw [←hS]
 unfold knS at hS
 generalize (((nxt l n 4).1-2:Int):Rat)=t0 at*
 obtain ⟨c,hc⟩: ∃c:Nat,c=(nxt l (nxt l n 4).2 ((inner+1:Nat):Int)).1.toNat:=⟨_,rfl⟩
 have hci:(nxt l (nxt l n 4).2 ((inner+1:Nat):Int)).1=(c:Int):=by omega
 have hcb:c≤inner:=by omega
 rw [←hc] at hS
 rw [hci] at N2
 generalize (nxt l (nxt l n 4).2 ((inner+1:Nat):Int)).2=n2 at*
 generalize (nxt l n 4).2=n1 at*
 generalize (nxt l n 4).1=a at*
 generalize ((1:Int):Rat)=one at*
 apply AW Tryz.func55 rfl rfl rfl rfl rfl
 case hin=>simp [inA,inC]
 intro W0 base D μ0 hA hD
 repeat (first
  | refine Aq ?_|refine Ah ?_|refine Af rfl ?_|refine Ag rfl ?_
  | ((first|refine Ae (by kernel_rfl) ?_|refine Ak (by kernel_rfl) (by kernel_rfl) (by kernel_rfl) ?_)
     repeat (first
      | refine AN (hl:=?_)
      | refine Al (hl:=?_)
      | refine Ad (hl:=?_)
      | refine As (hl:=?_)
      | refine At (hl:=?_)
      | refine AA (hl:=?_)
      | refine Ax (hl:=?_)
      | refine Ab (hl:=?_)
      | refine AH (hl:=?_)
      | refine AI (hl:=?_)
      | refine AU (hl:=?_)
      | refine AC (hl:=?_)
      | refine AB (hl:=?_)
      | refine AD (hl:=?_)
      | refine Au (hl:=?_)
      | refine Ao (hl:=?_)
      | refine Az (hl:=?_)
      | refine Cz hA (hc:=N1) (hl:=?_)
      | refine Ar hA (hc:=I1) (hl:=?_))
     apply Ai.nil;try refine And.intro (by kernel_rfl) ?_)
  | refine Am ?_|refine An ?_)
 refine Cr (fun m σ=> ∃(i:Nat),m=p+1-i∧i≤p+1∧Wk ⟨W0,base,D,80,[901],μ0⟩ σ [(0,.one (.ptr 901 0)),(1,AK (p:Nat)),(2,AK (inner:Nat)),(7,.one (.ptr 7 0)),(8,.one (.gl 900 (List.replicate i t0).length 3)),(9,AK (i:Nat))] [(900,Bz (nmD (5*inner+20)) (List.replicate i t0)),(7,nmC 2 t0),(901,C5 l n1)]) (n:=p+1) ⟨0,by omega,by omega,?_⟩ ?_
 ·refine AT ?_ ?_ rfl
  ·repeat (first|exact Ac|(refine List.forall_mem_cons.2 ⟨?_,?_⟩;focus (first|exact Ent.of_eq rfl|(refine Ent.one' rfl ?_;(first|exact Aa.ratsLe (by omega)|exact Aa.ratsNil|exact Aa.glNil|(refine Aa.int ?_;omega)|(refine Aa.glLen ?_;first|omega|simp)|exact Aa.of_eq rfl|(refine Aa.q rfl ?_;omega)|exact Z0 _|exact Z2 _|exact Aa.z0 (k:=0)|exact Aa.z1 (k:=0)|exact Aa.z2 (k:=0)|exact Aa.z0|exact Aa.z1|exact Aa.z2))|(refine Ent.agg' rfl ?_;(repeat (first|exact EntL.nil' rfl|(refine EntL.cons' rfl ?_ ?_;focus (first|exact Aa.ratsLe (by omega)|exact Aa.ratsNil|exact Aa.glNil|(refine Aa.int ?_;omega)|(refine Aa.glLen ?_;first|omega|simp)|exact Aa.of_eq rfl|(refine Aa.q rfl ?_;omega)|exact Z0 _|exact Z2 _|exact Aa.z0 (k:=0)|exact Aa.z1 (k:=0)|exact Aa.z2 (k:=0)|exact Aa.z0|exact Aa.z1|exact Aa.z2))));done))))
  ·repeat (first|exact Ac|(refine List.forall_mem_cons.2 ⟨?_,?_⟩;focus (first|exact Ap inferInstance|(refine AG rfl ?_ rfl;focus ((repeat (first|exact EntL.nil' rfl|(refine EntL.cons' rfl ?_ ?_;focus (first|exact Aa.ratsLe (by omega)|exact Aa.ratsNil|exact Aa.glNil|(refine Aa.int ?_;omega)|(refine Aa.glLen ?_;first|omega|simp)|exact Aa.of_eq rfl|(refine Aa.q rfl ?_;omega)|exact Z0 _|exact Z2 _|exact Aa.z0 (k:=0)|exact Aa.z1 (k:=0)|exact Aa.z2 (k:=0)|exact Aa.z0|exact Aa.z1|exact Aa.z2))));done)))))
 intro m σ hI
 obtain ⟨i,hm,hi0,hw⟩:=hI
 refine Dp hw ?_
 clear hw
 have hr:(List.replicate i t0).length=i:=by simp
 by_cases hip:i<p+1
 ·have bi:=Iu (k:= .i64) (decide_eq_true (show (i:Int)≤(p:Int) by omega))
  have hin:=BJ (k:= .i64) (show (IntKind.i64).wrap ((i:Int)+1)=((i+1:Nat):Int) from IntWalk.i64_in _ (by omega))
  repeat (first
   | refine Aq ?_|refine Ah ?_|refine Af rfl ?_|refine Ag rfl ?_
   | ((first|refine Ae (by kernel_rfl) ?_|refine Ak (by kernel_rfl) (by kernel_rfl) (by kernel_rfl) ?_)
      repeat (first
       | refine AN (hl:=?_)
       | refine Al (hl:=?_)
       | refine Ad (hl:=?_)
       | refine As (hl:=?_)
       | refine At (hl:=?_)
       | refine AA (hl:=?_)
       | refine Ax (hl:=?_)
       | refine Ab (hl:=?_)
       | refine AH (hl:=?_)
       | refine AI (hl:=?_)
       | refine AU (hl:=?_)
       | refine AC (hl:=?_)
       | refine AB (hl:=?_)
       | refine AD (hl:=?_)
       | refine Au (hl:=?_)
       | refine Ao (hl:=?_)
       | refine Az (hl:=?_))
      apply Ai.nil;try refine And.intro (by kernel_rfl) ?_)
   | refine Am ?_|refine An ?_)
  try refine Aq ?_
  refine CV 3 (by simp only [List.take_succ_cons,List.take_zero,List.drop_succ_cons,List.drop_zero];exact ⟨rfl,rfl⟩) (by kernel_rfl) ?_
  repeat (first
   | refine AN (hl:=?_)
   | refine Al (hl:=?_)
   | refine Ad (hl:=?_)
   | refine As (hl:=?_)
   | refine At (hl:=?_)
   | refine AA (hl:=?_)
   | refine Ax (hl:=?_)
   | refine Ab (hl:=?_)
   | refine AH (hl:=?_)
   | refine AI (hl:=?_)
   | refine AU (hl:=?_)
   | refine AC (hl:=?_)
   | refine AB (hl:=?_)
   | refine AD (hl:=?_)
   | refine Au (hl:=?_)
   | refine Ao (hl:=?_)
   | refine Az (hl:=?_))
  apply Ai.nil
  refine ES (k:=900) (ss:= [(0,.one (.ptr 901 0)),(1,AK (p:Nat)),(2,AK (inner:Nat)),(7,.one (.ptr 7 0)),(9,AK (i:Nat))]) (bs:= [(7,nmC 2 t0),(901,C5 l n1)]) (ns:=(nmC 2 t0)) hD ?_ ?_ ?_
  ·exact ⟨by omega,by omega⟩
  ·refine AT ?_ ?_ rfl
   ·repeat (first|exact Ac|(refine List.forall_mem_cons.2 ⟨?_,?_⟩;focus (first|exact Ent.of_eq rfl|(refine Ent.one' rfl ?_;(first|exact Aa.ratsLe (by omega)|exact Aa.ratsNil|exact Aa.glNil|(refine Aa.int ?_;omega)|(refine Aa.glLen ?_;first|omega|simp)|exact Aa.of_eq rfl|(refine Aa.q rfl ?_;omega)|exact Z0 _|exact Z2 _|exact Aa.z0 (k:=0)|exact Aa.z1 (k:=0)|exact Aa.z2 (k:=0)|exact Aa.z0|exact Aa.z1|exact Aa.z2))|(refine Ent.agg' rfl ?_;(repeat (first|exact EntL.nil' rfl|(refine EntL.cons' rfl ?_ ?_;focus (first|exact Aa.ratsLe (by omega)|exact Aa.ratsNil|exact Aa.glNil|(refine Aa.int ?_;omega)|(refine Aa.glLen ?_;first|omega|simp)|exact Aa.of_eq rfl|(refine Aa.q rfl ?_;omega)|exact Z0 _|exact Z2 _|exact Aa.z0 (k:=0)|exact Aa.z1 (k:=0)|exact Aa.z2 (k:=0)|exact Aa.z0|exact Aa.z1|exact Aa.z2))));done))))
   ·repeat (first|exact Ac|(refine List.forall_mem_cons.2 ⟨?_,?_⟩;focus (first|exact Ap inferInstance|(refine AG rfl ?_ rfl;focus ((repeat (first|exact EntL.nil' rfl|(refine EntL.cons' rfl ?_ ?_;focus (first|exact Aa.ratsLe (by omega)|exact Aa.ratsNil|exact Aa.glNil|(refine Aa.int ?_;omega)|(refine Aa.glLen ?_;first|omega|simp)|exact Aa.of_eq rfl|(refine Aa.q rfl ?_;omega)|exact Z0 _|exact Z2 _|exact Aa.z0 (k:=0)|exact Aa.z1 (k:=0)|exact Aa.z2 (k:=0)|exact Aa.z0|exact Aa.z1|exact Aa.z2))));done)))))
  repeat (refine DI rfl ?_;(first|refine Ad (hl:=?_)|refine Al (hl:=?_)|refine At (hl:=?_));apply Ai.nil)
  refine DJ ?_
  repeat (first
   | refine Aq ?_|refine Ah ?_|refine Af rfl ?_|refine Ag rfl ?_
   | ((first|refine Ae (by kernel_rfl) ?_|refine Ak (by kernel_rfl) (by kernel_rfl) (by kernel_rfl) ?_)
      repeat (first
       | refine AN (hl:=?_)
       | refine Al (hl:=?_)
       | refine Ad (hl:=?_)
       | refine As (hl:=?_)
       | refine At (hl:=?_)
       | refine AA (hl:=?_)
       | refine Ax (hl:=?_)
       | refine Ab (hl:=?_)
       | refine AH (hl:=?_)
       | refine AI (hl:=?_)
       | refine AU (hl:=?_)
       | refine AC (hl:=?_)
       | refine AB (hl:=?_)
       | refine AD (hl:=?_)
       | refine Au (hl:=?_)
       | refine Ao (hl:=?_)
       | refine Az (hl:=?_))
      apply Ai.nil;try refine And.intro (by kernel_rfl) ?_)
   | refine Am ?_|refine An ?_)
  refine ⟨m-1,by omega,i+1,by omega,by omega,?_⟩
  rw [List.replicate_succ']
  refine AT ?_ ?_ rfl
  ·repeat (first|exact Ac|(refine List.forall_mem_cons.2 ⟨?_,?_⟩;focus (first|exact Ent.of_eq rfl|(refine Ent.one' rfl ?_;(first|exact Aa.ratsLe (by omega)|exact Aa.ratsNil|exact Aa.glNil|(refine Aa.int ?_;omega)|(refine Aa.glLen ?_;first|omega|simp)|exact Aa.of_eq rfl|(refine Aa.q rfl ?_;omega)|exact Z0 _|exact Z2 _|exact Aa.z0 (k:=0)|exact Aa.z1 (k:=0)|exact Aa.z2 (k:=0)|exact Aa.z0|exact Aa.z1|exact Aa.z2))|(refine Ent.agg' rfl ?_;(repeat (first|exact EntL.nil' rfl|(refine EntL.cons' rfl ?_ ?_;focus (first|exact Aa.ratsLe (by omega)|exact Aa.ratsNil|exact Aa.glNil|(refine Aa.int ?_;omega)|(refine Aa.glLen ?_;first|omega|simp)|exact Aa.of_eq rfl|(refine Aa.q rfl ?_;omega)|exact Z0 _|exact Z2 _|exact Aa.z0 (k:=0)|exact Aa.z1 (k:=0)|exact Aa.z2 (k:=0)|exact Aa.z0|exact Aa.z1|exact Aa.z2))));done))))
  ·repeat (first|exact Ac|(refine List.forall_mem_cons.2 ⟨?_,?_⟩;focus (first|exact Ap inferInstance|(refine C7 inferInstance ?_;(repeat (first|exact EntL.nil' rfl|(refine EntL.cons' rfl ?_ ?_;focus (first|exact Aa.ratsLe (by omega)|exact Aa.ratsNil|exact Aa.glNil|(refine Aa.int ?_;omega)|(refine Aa.glLen ?_;first|omega|simp)|exact Aa.of_eq rfl|(refine Aa.q rfl ?_;omega)|exact Z0 _|exact Z2 _|exact Aa.z0 (k:=0)|exact Aa.z1 (k:=0)|exact Aa.z2 (k:=0)|exact Aa.z0|exact Aa.z1|exact Aa.z2))));done)|(refine AG rfl ?_ rfl;focus ((repeat (first|exact EntL.nil' rfl|(refine EntL.cons' rfl ?_ ?_;focus (first|exact Aa.ratsLe (by omega)|exact Aa.ratsNil|exact Aa.glNil|(refine Aa.int ?_;omega)|(refine Aa.glLen ?_;first|omega|simp)|exact Aa.of_eq rfl|(refine Aa.q rfl ?_;omega)|exact Z0 _|exact Z2 _|exact Aa.z0 (k:=0)|exact Aa.z1 (k:=0)|exact Aa.z2 (k:=0)|exact Aa.z0|exact Aa.z1|exact Aa.z2))));done)))))
 obtain rfl:i=p+1:=by omega
 have bi:=Iu (k:= .i64) (decide_eq_false (show ¬((p+1:Nat):Int)≤(p:Int) by omega))
 repeat (first
  | refine Aq ?_|refine Ah ?_|refine Af rfl ?_|refine Ag rfl ?_
  | ((first|refine Ae (by kernel_rfl) ?_|refine Ak (by kernel_rfl) (by kernel_rfl) (by kernel_rfl) ?_)
     repeat (first
      | refine AN (hl:=?_)
      | refine Al (hl:=?_)
      | refine Ad (hl:=?_)
      | refine As (hl:=?_)
      | refine At (hl:=?_)
      | refine AA (hl:=?_)
      | refine Ax (hl:=?_)
      | refine Ab (hl:=?_)
      | refine AH (hl:=?_)
      | refine AI (hl:=?_)
      | refine AU (hl:=?_)
      | refine AC (hl:=?_)
      | refine AB (hl:=?_)
      | refine AD (hl:=?_)
      | refine Au (hl:=?_)
      | refine Ao (hl:=?_)
      | refine Az (hl:=?_)
      | refine Cz hA (hc:=N2) (hl:=?_))
     apply Ai.nil;try refine And.intro (by kernel_rfl) ?_)
  | refine Am ?_|refine An ?_)
 refine Cr (fun m σ=> ∃(r q:Nat) (t:Rat) (ks:List Rat) (ps:Nat),m=r∧r+q=c∧knL l p r (t,ks,ps)=S∧ks.length=p+1+q∧ps≤l.length∧Wk ⟨W0,base,D,80,[901],μ0⟩ σ [(0,.one (.ptr 901 0)),(1,AK (p:Nat)),(7,.one (.ptr 7 0)),(8,.one (.gl 900 ks.length 3)),(10,AK (r:Nat))] [(900,Bz (nmD (5*inner+20)) ks),(7,nmC (2+5*q) t),(901,C5 l ps)]) (n:=c) ⟨c,0,t0,List.replicate (p+1) t0,n2,by omega,by omega,hS.symm,by simp,g2,?_⟩ ?_
 ·refine AT ?_ ?_ rfl
  ·repeat (first|exact Ac|(refine List.forall_mem_cons.2 ⟨?_,?_⟩;focus (first|exact Ent.of_eq rfl|(refine Ent.one' rfl ?_;(first|exact Aa.ratsLe (by omega)|exact Aa.ratsNil|exact Aa.glNil|(refine Aa.int ?_;omega)|(refine Aa.glLen ?_;first|omega|simp)|exact Aa.of_eq rfl|(refine Aa.q rfl ?_;omega)|exact Z0 _|exact Z2 _|exact Aa.z0 (k:=0)|exact Aa.z1 (k:=0)|exact Aa.z2 (k:=0)|exact Aa.z0|exact Aa.z1|exact Aa.z2))|(refine Ent.agg' rfl ?_;(repeat (first|exact EntL.nil' rfl|(refine EntL.cons' rfl ?_ ?_;focus (first|exact Aa.ratsLe (by omega)|exact Aa.ratsNil|exact Aa.glNil|(refine Aa.int ?_;omega)|(refine Aa.glLen ?_;first|omega|simp)|exact Aa.of_eq rfl|(refine Aa.q rfl ?_;omega)|exact Z0 _|exact Z2 _|exact Aa.z0 (k:=0)|exact Aa.z1 (k:=0)|exact Aa.z2 (k:=0)|exact Aa.z0|exact Aa.z1|exact Aa.z2))));done))))
  ·repeat (first|exact Ac|(refine List.forall_mem_cons.2 ⟨?_,?_⟩;focus (first|exact Ap inferInstance|(refine AG rfl ?_ rfl;focus ((repeat (first|exact EntL.nil' rfl|(refine EntL.cons' rfl ?_ ?_;focus (first|exact Aa.ratsLe (by omega)|exact Aa.ratsNil|exact Aa.glNil|(refine Aa.int ?_;omega)|(refine Aa.glLen ?_;first|omega|simp)|exact Aa.of_eq rfl|(refine Aa.q rfl ?_;omega)|exact Z0 _|exact Z2 _|exact Aa.z0 (k:=0)|exact Aa.z1 (k:=0)|exact Aa.z2 (k:=0)|exact Aa.z0|exact Aa.z1|exact Aa.z2))));done)))))
 clear N1 N2 hS hc hr bi hs hs2 I1 a1 a2 b1 b2 hci
 intro m σ hI
 obtain ⟨r,q,t,ks,ps,hm,hrq,hS,hkl,hps,hw⟩:=hI
 refine Dp hw ?_
 clear hw
 have hk3:(ks.length+1)*56≤140737488355328:=by omega
 cases r with
 | succ r=>
   have bi:=EP (k:= .i64) (decide_eq_true (show ((r+1:Nat):Int)>0 by omega))
   have hin:=Cq (k:= .i64) (show (IntKind.i64).wrap (((r+1:Nat):Int)-1)=(r:Int) by rw [show (((r+1:Nat):Int)-1)=(r:Int) by omega];exact IntWalk.i64_in _ (by omega))
   have b0:=BJ (k:= .i64) (show (IntKind.i64).wrap ((p:Int)+1)=((p+1:Nat):Int) from IntWalk.i64_in _ (by omega))
   have hstep:knL l p r ((knT l p t ks ps).1,ks++ [(knT l p t ks ps).1],(knT l p t ks ps).2)=S:=hS
   have hnew: ∀(ps2:Nat),ps2≤l.length→(knC l p t ks ps)=(true,ps2)→0≤(nxt l ps2 3).1∧(nxt l ps2 3).1<3∧(nxt l ps2 3).2≤l.length∧0≤(nxt l (nxt l ps2 3).2 2).1∧(nxt l (nxt l ps2 3).2 2).1<2∧(nxt l (nxt l ps2 3).2 2).2≤l.length∧knT l p t ks ps=(t+((1+(nxt l ps2 3).1:Int):Rat)/((1+(nxt l (nxt l ps2 3).2 2).1:Int):Rat),(nxt l (nxt l ps2 3).2 2).2):=fun ps2 h2 he=>by
    obtain ⟨x1,x2,x3⟩:=D4 l ps2 (m:=3) (by decide)
    obtain ⟨y1,y2,y3⟩:=D4 l (nxt l ps2 3).2 (m:=2) (by decide)
    refine ⟨x1,x2,x3 h2,y1,y2,y3 (x3 h2),?_⟩
    rw [QL (by rw [he]),he]
   by_cases hA1:ks.length=p+1
   ·have e1:knC l p t ks ps=(true,ps):=by unfold knC;rw [if_pos hA1]
    have c1:=LY (k:= .i64) (decide_eq_true (show (ks.length:Int)=((p+1:Nat):Int) by omega))
    obtain ⟨x1,x2,x3,y1,y2,y3,hT⟩:=hnew ps hps e1
    have X1:=Ec (k:=901) (n:=ps) (m:=3) hb hl hps (by decide) (by decide)
    have Y1:=Ec (k:=901) (n:=(nxt l ps 3).2) (m:=2) hb hl x3 (by decide) (by decide)
    have w1:=BJ (k:= .i64) (show (IntKind.i64).wrap (1+(nxt l ps 3).1)=1+(nxt l ps 3).1 from IntWalk.i64_in _ (by omega))
    have w2:=BJ (k:= .i64) (show (IntKind.i64).wrap (1+(nxt l (nxt l ps 3).2 2).1)=1+(nxt l (nxt l ps 3).2 2).1 from IntWalk.i64_in _ (by omega))
    have F1:=Hl (n:=1+(nxt l ps 3).1) (d:=1+(nxt l (nxt l ps 3).2 2).1) (by rw [decide_eq_true (show-9223372036854775808≤1+(nxt l ps 3).1 by omega),decide_eq_true (show 1+(nxt l ps 3).1<9223372036854775808 by omega),decide_eq_true (show 1≤1+(nxt l (nxt l ps 3).2 2).1 by omega),decide_eq_true (show 1+(nxt l (nxt l ps 3).2 2).1<9223372036854775808 by omega)];rfl)
    have A1:=Hm (j:=2+5*q) (k:=2) (x:=t) (y:=((1+(nxt l ps 3).1:Int):Rat)/((1+(nxt l (nxt l ps 3).2 2).1:Int):Rat)) (by omega) (by omega)
    rw [hT] at hstep
    generalize t+((1+(nxt l ps 3).1:Int):Rat)/((1+(nxt l (nxt l ps 3).2 2).1:Int):Rat)=t' at*
    generalize (nxt l (nxt l ps 3).2 2).2=ps' at*
    repeat (first
     | refine Aq ?_|refine Ah ?_|refine Af rfl ?_|refine Ag rfl ?_
     | ((first|refine Ae (by kernel_rfl) ?_|refine Ak (by kernel_rfl) (by kernel_rfl) (by kernel_rfl) ?_)
        repeat (first
         | refine AN (hl:=?_)
         | refine Al (hl:=?_)
         | refine Ad (hl:=?_)
         | refine As (hl:=?_)
         | refine At (hl:=?_)
         | refine AA (hl:=?_)
         | refine Ax (hl:=?_)
         | refine Ab (hl:=?_)
         | refine AH (hl:=?_)
         | refine AI (hl:=?_)
         | refine AU (hl:=?_)
         | refine AC (hl:=?_)
         | refine AB (hl:=?_)
         | refine AD (hl:=?_)
         | refine Au (hl:=?_)
         | refine Ao (hl:=?_)
         | refine Az (hl:=?_)
         | refine Cz hA (hc:=X1) (hl:=?_)
         | refine Cz hA (hc:=Y1) (hl:=?_)
         | refine Ar hA (hc:=F1) (hl:=?_)
         | refine Ar hA (hc:=A1) (hl:=?_))
        apply Ai.nil;try refine And.intro (by kernel_rfl) ?_)
     | refine Am ?_|refine An ?_)
    try refine Aq ?_
    refine CV 3 (by simp only [List.take_succ_cons,List.take_zero,List.drop_succ_cons,List.drop_zero];exact ⟨rfl,rfl⟩) (by kernel_rfl) ?_
    repeat (first
     | refine AN (hl:=?_)
     | refine Al (hl:=?_)
     | refine Ad (hl:=?_)
     | refine As (hl:=?_)
     | refine At (hl:=?_)
     | refine AA (hl:=?_)
     | refine Ax (hl:=?_)
     | refine Ab (hl:=?_)
     | refine AH (hl:=?_)
     | refine AI (hl:=?_)
     | refine AU (hl:=?_)
     | refine AC (hl:=?_)
     | refine AB (hl:=?_)
     | refine AD (hl:=?_)
     | refine Au (hl:=?_)
     | refine Ao (hl:=?_)
     | refine Az (hl:=?_))
    apply Ai.nil
    refine ES (k:=900) (ss:= [(0,.one (.ptr 901 0)),(1,AK (p:Nat)),(7,.one (.ptr 7 0)),(10,AK ((r+1:Nat):Int))]) (bs:= [(7,nmC (2+5*q+2+3) t'),(901,C5 l ps')]) (ns:=(nmC (2+5*q+2+3) t')) hD ?_ ?_ ?_
    ·exact ⟨by omega,by omega⟩
    ·refine AT ?_ ?_ rfl
     ·repeat (first|exact Ac|(refine List.forall_mem_cons.2 ⟨?_,?_⟩;focus (first|exact Ent.of_eq rfl|(refine Ent.one' rfl ?_;(first|exact Aa.ratsLe (by omega)|exact Aa.ratsNil|exact Aa.glNil|(refine Aa.int ?_;omega)|(refine Aa.glLen ?_;first|omega|simp)|exact Aa.of_eq rfl|(refine Aa.q rfl ?_;omega)|exact Z0 _|exact Z2 _|exact Aa.z0 (k:=0)|exact Aa.z1 (k:=0)|exact Aa.z2 (k:=0)|exact Aa.z0|exact Aa.z1|exact Aa.z2))|(refine Ent.agg' rfl ?_;(repeat (first|exact EntL.nil' rfl|(refine EntL.cons' rfl ?_ ?_;focus (first|exact Aa.ratsLe (by omega)|exact Aa.ratsNil|exact Aa.glNil|(refine Aa.int ?_;omega)|(refine Aa.glLen ?_;first|omega|simp)|exact Aa.of_eq rfl|(refine Aa.q rfl ?_;omega)|exact Z0 _|exact Z2 _|exact Aa.z0 (k:=0)|exact Aa.z1 (k:=0)|exact Aa.z2 (k:=0)|exact Aa.z0|exact Aa.z1|exact Aa.z2))));done))))
     ·repeat (first|exact Ac|(refine List.forall_mem_cons.2 ⟨?_,?_⟩;focus (first|exact Ap inferInstance|(refine AG rfl ?_ rfl;focus ((repeat (first|exact EntL.nil' rfl|(refine EntL.cons' rfl ?_ ?_;focus (first|exact Aa.ratsLe (by omega)|exact Aa.ratsNil|exact Aa.glNil|(refine Aa.int ?_;omega)|(refine Aa.glLen ?_;first|omega|simp)|exact Aa.of_eq rfl|(refine Aa.q rfl ?_;omega)|exact Z0 _|exact Z2 _|exact Aa.z0 (k:=0)|exact Aa.z1 (k:=0)|exact Aa.z2 (k:=0)|exact Aa.z0|exact Aa.z1|exact Aa.z2))));done)))))
    repeat (refine DI rfl ?_;(first|refine Ad (hl:=?_)|refine Al (hl:=?_)|refine At (hl:=?_));apply Ai.nil)
    refine DJ ?_
    repeat (first
     | refine Aq ?_|refine Ah ?_|refine Af rfl ?_|refine Ag rfl ?_
     | ((first|refine Ae (by kernel_rfl) ?_|refine Ak (by kernel_rfl) (by kernel_rfl) (by kernel_rfl) ?_)
        repeat (first
         | refine AN (hl:=?_)
         | refine Al (hl:=?_)
         | refine Ad (hl:=?_)
         | refine As (hl:=?_)
         | refine At (hl:=?_)
         | refine AA (hl:=?_)
         | refine Ax (hl:=?_)
         | refine Ab (hl:=?_)
         | refine AH (hl:=?_)
         | refine AI (hl:=?_)
         | refine AU (hl:=?_)
         | refine AC (hl:=?_)
         | refine AB (hl:=?_)
         | refine AD (hl:=?_)
         | refine Au (hl:=?_)
         | refine Ao (hl:=?_)
         | refine Az (hl:=?_))
        apply Ai.nil;try refine And.intro (by kernel_rfl) ?_)
     | refine Am ?_|refine An ?_)
    refine ⟨r,by omega,r,q+1,t',ks++ [t'],ps',rfl,by omega,hstep,by simp;omega,y3,?_⟩
    refine AT ?_ ?_ rfl
    ·repeat (first|exact Ac|(refine List.forall_mem_cons.2 ⟨?_,?_⟩;focus (first|exact Ent.of_eq rfl|(refine Ent.one' rfl ?_;(first|exact Aa.ratsLe (by omega)|exact Aa.ratsNil|exact Aa.glNil|(refine Aa.int ?_;omega)|(refine Aa.glLen ?_;first|omega|simp)|exact Aa.of_eq rfl|(refine Aa.q rfl ?_;omega)|exact Z0 _|exact Z2 _|exact Aa.z0 (k:=0)|exact Aa.z1 (k:=0)|exact Aa.z2 (k:=0)|exact Aa.z0|exact Aa.z1|exact Aa.z2))|(refine Ent.agg' rfl ?_;(repeat (first|exact EntL.nil' rfl|(refine EntL.cons' rfl ?_ ?_;focus (first|exact Aa.ratsLe (by omega)|exact Aa.ratsNil|exact Aa.glNil|(refine Aa.int ?_;omega)|(refine Aa.glLen ?_;first|omega|simp)|exact Aa.of_eq rfl|(refine Aa.q rfl ?_;omega)|exact Z0 _|exact Z2 _|exact Aa.z0 (k:=0)|exact Aa.z1 (k:=0)|exact Aa.z2 (k:=0)|exact Aa.z0|exact Aa.z1|exact Aa.z2))));done))))
    ·repeat (first|exact Ac|(refine List.forall_mem_cons.2 ⟨?_,?_⟩;focus (first|exact Ap inferInstance|(refine C7 inferInstance ?_;(repeat (first|exact EntL.nil' rfl|(refine EntL.cons' rfl ?_ ?_;focus (first|exact Aa.ratsLe (by omega)|exact Aa.ratsNil|exact Aa.glNil|(refine Aa.int ?_;omega)|(refine Aa.glLen ?_;first|omega|simp)|exact Aa.of_eq rfl|(refine Aa.q rfl ?_;omega)|exact Z0 _|exact Z2 _|exact Aa.z0 (k:=0)|exact Aa.z1 (k:=0)|exact Aa.z2 (k:=0)|exact Aa.z0|exact Aa.z1|exact Aa.z2))));done)|(refine AG rfl ?_ rfl;focus ((repeat (first|exact EntL.nil' rfl|(refine EntL.cons' rfl ?_ ?_;focus (first|exact Aa.ratsLe (by omega)|exact Aa.ratsNil|exact Aa.glNil|(refine Aa.int ?_;omega)|(refine Aa.glLen ?_;first|omega|simp)|exact Aa.of_eq rfl|(refine Aa.q rfl ?_;omega)|exact Z0 _|exact Z2 _|exact Aa.z0 (k:=0)|exact Aa.z1 (k:=0)|exact Aa.z2 (k:=0)|exact Aa.z0|exact Aa.z1|exact Aa.z2))));done)))))
   ·have c1:=LY (k:= .i64) (decide_eq_false (show ¬(ks.length:Int)=((p+1:Nat):Int) by omega))
    obtain ⟨z1,z2,z3⟩:=D4 l ps (m:=3) (by decide)
    have z3:=z3 hps
    have Z1:=Ec (k:=901) (n:=ps) (m:=3) hb hl hps (by decide) (by decide)
    by_cases hB:0<(nxt l ps 3).1
    ·have e1:knC l p t ks ps=(true,(nxt l ps 3).2):=by unfold knC;rw [if_neg hA1,if_pos hB]
     have c2:=EP (k:= .i64) (decide_eq_true (show (nxt l ps 3).1>0 from hB))
     obtain ⟨P,hP⟩: ∃P,P=(nxt l ps 3).2:=⟨_,rfl⟩
     rw [←hP] at e1 z3 Z1
     generalize (nxt l ps 3).1=z at*
     clear hP
     obtain ⟨x1,x2,x3,y1,y2,y3,hT⟩:=hnew P z3 e1
     have X1:=Ec (k:=901) (n:=P) (m:=3) hb hl z3 (by decide) (by decide)
     have Y1:=Ec (k:=901) (n:=(nxt l P 3).2) (m:=2) hb hl x3 (by decide) (by decide)
     have w1:=BJ (k:= .i64) (show (IntKind.i64).wrap (1+(nxt l P 3).1)=1+(nxt l P 3).1 from IntWalk.i64_in _ (by omega))
     have w2:=BJ (k:= .i64) (show (IntKind.i64).wrap (1+(nxt l (nxt l P 3).2 2).1)=1+(nxt l (nxt l P 3).2 2).1 from IntWalk.i64_in _ (by omega))
     have F1:=Hl (n:=1+(nxt l P 3).1) (d:=1+(nxt l (nxt l P 3).2 2).1) (by rw [decide_eq_true (show-9223372036854775808≤1+(nxt l P 3).1 by omega),decide_eq_true (show 1+(nxt l P 3).1<9223372036854775808 by omega),decide_eq_true (show 1≤1+(nxt l (nxt l P 3).2 2).1 by omega),decide_eq_true (show 1+(nxt l (nxt l P 3).2 2).1<9223372036854775808 by omega)];rfl)
     have A1:=Hm (j:=2+5*q) (k:=2) (x:=t) (y:=((1+(nxt l P 3).1:Int):Rat)/((1+(nxt l (nxt l P 3).2 2).1:Int):Rat)) (by omega) (by omega)
     rw [hT] at hstep
     generalize t+((1+(nxt l P 3).1:Int):Rat)/((1+(nxt l (nxt l P 3).2 2).1:Int):Rat)=t' at*
     generalize (nxt l (nxt l P 3).2 2).2=ps' at*
     repeat (first
      | refine Aq ?_|refine Ah ?_|refine Af rfl ?_|refine Ag rfl ?_
      | ((first|refine Ae (by kernel_rfl) ?_|refine Ak (by kernel_rfl) (by kernel_rfl) (by kernel_rfl) ?_)
         repeat (first
          | refine AN (hl:=?_)
          | refine Al (hl:=?_)
          | refine Ad (hl:=?_)
          | refine As (hl:=?_)
          | refine At (hl:=?_)
          | refine AA (hl:=?_)
          | refine Ax (hl:=?_)
          | refine Ab (hl:=?_)
          | refine AH (hl:=?_)
          | refine AI (hl:=?_)
          | refine AU (hl:=?_)
          | refine AC (hl:=?_)
          | refine AB (hl:=?_)
          | refine AD (hl:=?_)
          | refine Au (hl:=?_)
          | refine Ao (hl:=?_)
          | refine Az (hl:=?_)
          | refine Cz hA (hc:=Z1) (hl:=?_)
          | refine Cz hA (hc:=X1) (hl:=?_)
          | refine Cz hA (hc:=Y1) (hl:=?_)
          | refine Ar hA (hc:=F1) (hl:=?_)
          | refine Ar hA (hc:=A1) (hl:=?_))
         apply Ai.nil;try refine And.intro (by kernel_rfl) ?_)
      | refine Am ?_|refine An ?_)
     try refine Aq ?_
     refine CV 3 (by simp only [List.take_succ_cons,List.take_zero,List.drop_succ_cons,List.drop_zero];exact ⟨rfl,rfl⟩) (by kernel_rfl) ?_
     repeat (first
      | refine AN (hl:=?_)
      | refine Al (hl:=?_)
      | refine Ad (hl:=?_)
      | refine As (hl:=?_)
      | refine At (hl:=?_)
      | refine AA (hl:=?_)
      | refine Ax (hl:=?_)
      | refine Ab (hl:=?_)
      | refine AH (hl:=?_)
      | refine AI (hl:=?_)
      | refine AU (hl:=?_)
      | refine AC (hl:=?_)
      | refine AB (hl:=?_)
      | refine AD (hl:=?_)
      | refine Au (hl:=?_)
      | refine Ao (hl:=?_)
      | refine Az (hl:=?_))
     apply Ai.nil
     refine ES (k:=900) (ss:= [(0,.one (.ptr 901 0)),(1,AK (p:Nat)),(7,.one (.ptr 7 0)),(10,AK ((r+1:Nat):Int))]) (bs:= [(7,nmC (2+5*q+2+3) t'),(901,C5 l ps')]) (ns:=(nmC (2+5*q+2+3) t')) hD ?_ ?_ ?_
     ·exact ⟨by omega,by omega⟩
     ·refine AT ?_ ?_ rfl
      ·repeat (first|exact Ac|(refine List.forall_mem_cons.2 ⟨?_,?_⟩;focus (first|exact Ent.of_eq rfl|(refine Ent.one' rfl ?_;(first|exact Aa.ratsLe (by omega)|exact Aa.ratsNil|exact Aa.glNil|(refine Aa.int ?_;omega)|(refine Aa.glLen ?_;first|omega|simp)|exact Aa.of_eq rfl|(refine Aa.q rfl ?_;omega)|exact Z0 _|exact Z2 _|exact Aa.z0 (k:=0)|exact Aa.z1 (k:=0)|exact Aa.z2 (k:=0)|exact Aa.z0|exact Aa.z1|exact Aa.z2))|(refine Ent.agg' rfl ?_;(repeat (first|exact EntL.nil' rfl|(refine EntL.cons' rfl ?_ ?_;focus (first|exact Aa.ratsLe (by omega)|exact Aa.ratsNil|exact Aa.glNil|(refine Aa.int ?_;omega)|(refine Aa.glLen ?_;first|omega|simp)|exact Aa.of_eq rfl|(refine Aa.q rfl ?_;omega)|exact Z0 _|exact Z2 _|exact Aa.z0 (k:=0)|exact Aa.z1 (k:=0)|exact Aa.z2 (k:=0)|exact Aa.z0|exact Aa.z1|exact Aa.z2))));done))))
      ·repeat (first|exact Ac|(refine List.forall_mem_cons.2 ⟨?_,?_⟩;focus (first|exact Ap inferInstance|(refine AG rfl ?_ rfl;focus ((repeat (first|exact EntL.nil' rfl|(refine EntL.cons' rfl ?_ ?_;focus (first|exact Aa.ratsLe (by omega)|exact Aa.ratsNil|exact Aa.glNil|(refine Aa.int ?_;omega)|(refine Aa.glLen ?_;first|omega|simp)|exact Aa.of_eq rfl|(refine Aa.q rfl ?_;omega)|exact Z0 _|exact Z2 _|exact Aa.z0 (k:=0)|exact Aa.z1 (k:=0)|exact Aa.z2 (k:=0)|exact Aa.z0|exact Aa.z1|exact Aa.z2))));done)))))
     repeat (refine DI rfl ?_;(first|refine Ad (hl:=?_)|refine Al (hl:=?_)|refine At (hl:=?_));apply Ai.nil)
     refine DJ ?_
     repeat (first
      | refine Aq ?_|refine Ah ?_|refine Af rfl ?_|refine Ag rfl ?_
      | ((first|refine Ae (by kernel_rfl) ?_|refine Ak (by kernel_rfl) (by kernel_rfl) (by kernel_rfl) ?_)
         repeat (first
          | refine AN (hl:=?_)
          | refine Al (hl:=?_)
          | refine Ad (hl:=?_)
          | refine As (hl:=?_)
          | refine At (hl:=?_)
          | refine AA (hl:=?_)
          | refine Ax (hl:=?_)
          | refine Ab (hl:=?_)
          | refine AH (hl:=?_)
          | refine AI (hl:=?_)
          | refine AU (hl:=?_)
          | refine AC (hl:=?_)
          | refine AB (hl:=?_)
          | refine AD (hl:=?_)
          | refine Au (hl:=?_)
          | refine Ao (hl:=?_)
          | refine Az (hl:=?_))
         apply Ai.nil;try refine And.intro (by kernel_rfl) ?_)
      | refine Am ?_|refine An ?_)
     refine ⟨r,by omega,r,q+1,t',ks++ [t'],ps',rfl,by omega,hstep,by simp;omega,y3,?_⟩
     refine AT ?_ ?_ rfl
     ·repeat (first|exact Ac|(refine List.forall_mem_cons.2 ⟨?_,?_⟩;focus (first|exact Ent.of_eq rfl|(refine Ent.one' rfl ?_;(first|exact Aa.ratsLe (by omega)|exact Aa.ratsNil|exact Aa.glNil|(refine Aa.int ?_;omega)|(refine Aa.glLen ?_;first|omega|simp)|exact Aa.of_eq rfl|(refine Aa.q rfl ?_;omega)|exact Z0 _|exact Z2 _|exact Aa.z0 (k:=0)|exact Aa.z1 (k:=0)|exact Aa.z2 (k:=0)|exact Aa.z0|exact Aa.z1|exact Aa.z2))|(refine Ent.agg' rfl ?_;(repeat (first|exact EntL.nil' rfl|(refine EntL.cons' rfl ?_ ?_;focus (first|exact Aa.ratsLe (by omega)|exact Aa.ratsNil|exact Aa.glNil|(refine Aa.int ?_;omega)|(refine Aa.glLen ?_;first|omega|simp)|exact Aa.of_eq rfl|(refine Aa.q rfl ?_;omega)|exact Z0 _|exact Z2 _|exact Aa.z0 (k:=0)|exact Aa.z1 (k:=0)|exact Aa.z2 (k:=0)|exact Aa.z0|exact Aa.z1|exact Aa.z2))));done))))
     ·repeat (first|exact Ac|(refine List.forall_mem_cons.2 ⟨?_,?_⟩;focus (first|exact Ap inferInstance|(refine C7 inferInstance ?_;(repeat (first|exact EntL.nil' rfl|(refine EntL.cons' rfl ?_ ?_;focus (first|exact Aa.ratsLe (by omega)|exact Aa.ratsNil|exact Aa.glNil|(refine Aa.int ?_;omega)|(refine Aa.glLen ?_;first|omega|simp)|exact Aa.of_eq rfl|(refine Aa.q rfl ?_;omega)|exact Z0 _|exact Z2 _|exact Aa.z0 (k:=0)|exact Aa.z1 (k:=0)|exact Aa.z2 (k:=0)|exact Aa.z0|exact Aa.z1|exact Aa.z2))));done)|(refine AG rfl ?_ rfl;focus ((repeat (first|exact EntL.nil' rfl|(refine EntL.cons' rfl ?_ ?_;focus (first|exact Aa.ratsLe (by omega)|exact Aa.ratsNil|exact Aa.glNil|(refine Aa.int ?_;omega)|(refine Aa.glLen ?_;first|omega|simp)|exact Aa.of_eq rfl|(refine Aa.q rfl ?_;omega)|exact Z0 _|exact Z2 _|exact Aa.z0 (k:=0)|exact Aa.z1 (k:=0)|exact Aa.z2 (k:=0)|exact Aa.z0|exact Aa.z1|exact Aa.z2))));done)))))
    ·have c2:=EP (k:= .i64) (decide_eq_false (show ¬(nxt l ps 3).1>0 from hB))
     obtain ⟨ix,hix⟩: ∃ix:Nat,ix=ks.length-p:=⟨_,rfl⟩
     have hixl:ix<ks.length:=by omega
     have b5:=Cq (k:= .i64) (show (IntKind.i64).wrap ((ks.length:Int)-(p:Int))=(ix:Int) by rw [show ((ks.length:Int)-(p:Int))=(ix:Int) by omega];exact IntWalk.i64_in _ (by omega))
     have hx:=NX (l:=ks) (i:=ix) hixl
     have lt1:(0:Int)≤((ix:Nat):Int)∧((ix:Nat):Int)<(ks.length:Nat):=by omega
     have st1:((ix:Nat):Int).toNat*3+3≤(Bz (nmD (5*inner+20)) ks).length:=by rw [B6 (n:=3) inferInstance,Int.toNat_natCast];omega
     have ld1:=JG (f:=nmD (5*inner+20)) (n:=3) inferInstance hx
     have S1:=Qj (j:=2+5*q) (k:=5*inner+20) (x:=t) (y:=ks.getD ix 0)
     have e0:knC l p t ks ps=(decide (t=ks.getD ix 0),(nxt l ps 3).2):=by unfold knC;rw [if_neg hA1,if_neg hB,hix]
     obtain ⟨P,hP⟩: ∃P,P=(nxt l ps 3).2:=⟨_,rfl⟩
     rw [←hP] at e0 z3 Z1
     generalize (nxt l ps 3).1=z at*
     clear hP
     by_cases hsame:t=ks.getD ix 0
     ·have e1:=e0
      rw [decide_eq_true hsame] at e1 S1
      clear e0
      obtain ⟨x1,x2,x3,y1,y2,y3,hT⟩:=hnew P z3 e1
      have X1:=Ec (k:=901) (n:=P) (m:=3) hb hl z3 (by decide) (by decide)
      have Y1:=Ec (k:=901) (n:=(nxt l P 3).2) (m:=2) hb hl x3 (by decide) (by decide)
      have w1:=BJ (k:= .i64) (show (IntKind.i64).wrap (1+(nxt l P 3).1)=1+(nxt l P 3).1 from IntWalk.i64_in _ (by omega))
      have w2:=BJ (k:= .i64) (show (IntKind.i64).wrap (1+(nxt l (nxt l P 3).2 2).1)=1+(nxt l (nxt l P 3).2 2).1 from IntWalk.i64_in _ (by omega))
      have F1:=Hl (n:=1+(nxt l P 3).1) (d:=1+(nxt l (nxt l P 3).2 2).1) (by rw [decide_eq_true (show-9223372036854775808≤1+(nxt l P 3).1 by omega),decide_eq_true (show 1+(nxt l P 3).1<9223372036854775808 by omega),decide_eq_true (show 1≤1+(nxt l (nxt l P 3).2 2).1 by omega),decide_eq_true (show 1+(nxt l (nxt l P 3).2 2).1<9223372036854775808 by omega)];rfl)
      have A1:=Hm (j:=2+5*q) (k:=2) (x:=t) (y:=((1+(nxt l P 3).1:Int):Rat)/((1+(nxt l (nxt l P 3).2 2).1:Int):Rat)) (by omega) (by omega)
      rw [hT] at hstep
      generalize t+((1+(nxt l P 3).1:Int):Rat)/((1+(nxt l (nxt l P 3).2 2).1:Int):Rat)=t' at*
      generalize (nxt l (nxt l P 3).2 2).2=ps' at*
      repeat (first
       | refine Aq ?_|refine Ah ?_|refine Af rfl ?_|refine Ag rfl ?_
       | ((first|refine Ae (by kernel_rfl) ?_|refine Ak (by kernel_rfl) (by kernel_rfl) (by kernel_rfl) ?_)
          repeat (first
           | refine GU (k:=900) st1 ld1 (hl:=?_)
           | refine AN (hl:=?_)
           | refine Al (hl:=?_)
           | refine Ad (hl:=?_)
           | refine As (hl:=?_)
           | refine At (hl:=?_)
           | refine AA (hl:=?_)
           | refine Ax (hl:=?_)
           | refine Ab (hl:=?_)
           | refine AH (hl:=?_)
           | refine AI (hl:=?_)
           | refine AU (hl:=?_)
           | refine AC (hl:=?_)
           | refine AB (hl:=?_)
           | refine AD (hl:=?_)
           | refine Au (hl:=?_)
           | refine Ao (hl:=?_)
           | refine Az (hl:=?_)
           | refine Cz hA (hc:=Z1) (hl:=?_)
           | refine Cz hA (hc:=X1) (hl:=?_)
           | refine Gd lt1 (hl:=?_)
           | refine Ar hA (hc:=S1) (hl:=?_)
           | refine Cz hA (hc:=Y1) (hl:=?_)
           | refine Ar hA (hc:=F1) (hl:=?_)
           | refine Ar hA (hc:=A1) (hl:=?_))
          apply Ai.nil;try refine And.intro (by kernel_rfl) ?_)
       | refine Am ?_|refine An ?_)
      try refine Aq ?_
      refine CV 3 (by simp only [List.take_succ_cons,List.take_zero,List.drop_succ_cons,List.drop_zero];exact ⟨rfl,rfl⟩) (by kernel_rfl) ?_
      repeat (first
       | refine AN (hl:=?_)
       | refine Al (hl:=?_)
       | refine Ad (hl:=?_)
       | refine As (hl:=?_)
       | refine At (hl:=?_)
       | refine AA (hl:=?_)
       | refine Ax (hl:=?_)
       | refine Ab (hl:=?_)
       | refine AH (hl:=?_)
       | refine AI (hl:=?_)
       | refine AU (hl:=?_)
       | refine AC (hl:=?_)
       | refine AB (hl:=?_)
       | refine AD (hl:=?_)
       | refine Au (hl:=?_)
       | refine Ao (hl:=?_)
       | refine Az (hl:=?_))
      apply Ai.nil
      refine ES (k:=900) (ss:= [(0,.one (.ptr 901 0)),(1,AK (p:Nat)),(7,.one (.ptr 7 0)),(10,AK ((r+1:Nat):Int))]) (bs:= [(7,nmC (2+5*q+2+3) t'),(901,C5 l ps')]) (ns:=(nmC (2+5*q+2+3) t')) hD ?_ ?_ ?_
      ·exact ⟨by omega,by omega⟩
      ·refine AT ?_ ?_ rfl
       ·repeat (first|exact Ac|(refine List.forall_mem_cons.2 ⟨?_,?_⟩;focus (first|exact Ent.of_eq rfl|(refine Ent.one' rfl ?_;(first|exact Aa.ratsLe (by omega)|exact Aa.ratsNil|exact Aa.glNil|(refine Aa.int ?_;omega)|(refine Aa.glLen ?_;first|omega|simp)|exact Aa.of_eq rfl|(refine Aa.q rfl ?_;omega)|exact Z0 _|exact Z2 _|exact Aa.z0 (k:=0)|exact Aa.z1 (k:=0)|exact Aa.z2 (k:=0)|exact Aa.z0|exact Aa.z1|exact Aa.z2))|(refine Ent.agg' rfl ?_;(repeat (first|exact EntL.nil' rfl|(refine EntL.cons' rfl ?_ ?_;focus (first|exact Aa.ratsLe (by omega)|exact Aa.ratsNil|exact Aa.glNil|(refine Aa.int ?_;omega)|(refine Aa.glLen ?_;first|omega|simp)|exact Aa.of_eq rfl|(refine Aa.q rfl ?_;omega)|exact Z0 _|exact Z2 _|exact Aa.z0 (k:=0)|exact Aa.z1 (k:=0)|exact Aa.z2 (k:=0)|exact Aa.z0|exact Aa.z1|exact Aa.z2))));done))))
       ·repeat (first|exact Ac|(refine List.forall_mem_cons.2 ⟨?_,?_⟩;focus (first|exact Ap inferInstance|(refine AG rfl ?_ rfl;focus ((repeat (first|exact EntL.nil' rfl|(refine EntL.cons' rfl ?_ ?_;focus (first|exact Aa.ratsLe (by omega)|exact Aa.ratsNil|exact Aa.glNil|(refine Aa.int ?_;omega)|(refine Aa.glLen ?_;first|omega|simp)|exact Aa.of_eq rfl|(refine Aa.q rfl ?_;omega)|exact Z0 _|exact Z2 _|exact Aa.z0 (k:=0)|exact Aa.z1 (k:=0)|exact Aa.z2 (k:=0)|exact Aa.z0|exact Aa.z1|exact Aa.z2))));done)))))
      repeat (refine DI rfl ?_;(first|refine Ad (hl:=?_)|refine Al (hl:=?_)|refine At (hl:=?_));apply Ai.nil)
      refine DJ ?_
      repeat (first
       | refine Aq ?_|refine Ah ?_|refine Af rfl ?_|refine Ag rfl ?_
       | ((first|refine Ae (by kernel_rfl) ?_|refine Ak (by kernel_rfl) (by kernel_rfl) (by kernel_rfl) ?_)
          repeat (first
           | refine AN (hl:=?_)
           | refine Al (hl:=?_)
           | refine Ad (hl:=?_)
           | refine As (hl:=?_)
           | refine At (hl:=?_)
           | refine AA (hl:=?_)
           | refine Ax (hl:=?_)
           | refine Ab (hl:=?_)
           | refine AH (hl:=?_)
           | refine AI (hl:=?_)
           | refine AU (hl:=?_)
           | refine AC (hl:=?_)
           | refine AB (hl:=?_)
           | refine AD (hl:=?_)
           | refine Au (hl:=?_)
           | refine Ao (hl:=?_)
           | refine Az (hl:=?_))
          apply Ai.nil;try refine And.intro (by kernel_rfl) ?_)
       | refine Am ?_|refine An ?_)
      refine ⟨r,by omega,r,q+1,t',ks++ [t'],ps',rfl,by omega,hstep,by simp;omega,y3,?_⟩
      refine AT ?_ ?_ rfl
      ·repeat (first|exact Ac|(refine List.forall_mem_cons.2 ⟨?_,?_⟩;focus (first|exact Ent.of_eq rfl|(refine Ent.one' rfl ?_;(first|exact Aa.ratsLe (by omega)|exact Aa.ratsNil|exact Aa.glNil|(refine Aa.int ?_;omega)|(refine Aa.glLen ?_;first|omega|simp)|exact Aa.of_eq rfl|(refine Aa.q rfl ?_;omega)|exact Z0 _|exact Z2 _|exact Aa.z0 (k:=0)|exact Aa.z1 (k:=0)|exact Aa.z2 (k:=0)|exact Aa.z0|exact Aa.z1|exact Aa.z2))|(refine Ent.agg' rfl ?_;(repeat (first|exact EntL.nil' rfl|(refine EntL.cons' rfl ?_ ?_;focus (first|exact Aa.ratsLe (by omega)|exact Aa.ratsNil|exact Aa.glNil|(refine Aa.int ?_;omega)|(refine Aa.glLen ?_;first|omega|simp)|exact Aa.of_eq rfl|(refine Aa.q rfl ?_;omega)|exact Z0 _|exact Z2 _|exact Aa.z0 (k:=0)|exact Aa.z1 (k:=0)|exact Aa.z2 (k:=0)|exact Aa.z0|exact Aa.z1|exact Aa.z2))));done))))
      ·repeat (first|exact Ac|(refine List.forall_mem_cons.2 ⟨?_,?_⟩;focus (first|exact Ap inferInstance|(refine C7 inferInstance ?_;(repeat (first|exact EntL.nil' rfl|(refine EntL.cons' rfl ?_ ?_;focus (first|exact Aa.ratsLe (by omega)|exact Aa.ratsNil|exact Aa.glNil|(refine Aa.int ?_;omega)|(refine Aa.glLen ?_;first|omega|simp)|exact Aa.of_eq rfl|(refine Aa.q rfl ?_;omega)|exact Z0 _|exact Z2 _|exact Aa.z0 (k:=0)|exact Aa.z1 (k:=0)|exact Aa.z2 (k:=0)|exact Aa.z0|exact Aa.z1|exact Aa.z2))));done)|(refine AG rfl ?_ rfl;focus ((repeat (first|exact EntL.nil' rfl|(refine EntL.cons' rfl ?_ ?_;focus (first|exact Aa.ratsLe (by omega)|exact Aa.ratsNil|exact Aa.glNil|(refine Aa.int ?_;omega)|(refine Aa.glLen ?_;first|omega|simp)|exact Aa.of_eq rfl|(refine Aa.q rfl ?_;omega)|exact Z0 _|exact Z2 _|exact Aa.z0 (k:=0)|exact Aa.z1 (k:=0)|exact Aa.z2 (k:=0)|exact Aa.z0|exact Aa.z1|exact Aa.z2))));done)))))
     ·rw [decide_eq_false hsame] at e0 S1
      have hT:knT l p t ks ps=(t,P):=by rw [Sa (by rw [e0];simp),e0]
      rw [hT] at hstep
      repeat (first
       | refine Aq ?_|refine Ah ?_|refine Af rfl ?_|refine Ag rfl ?_
       | ((first|refine Ae (by kernel_rfl) ?_|refine Ak (by kernel_rfl) (by kernel_rfl) (by kernel_rfl) ?_)
          repeat (first
           | refine GU (k:=900) st1 ld1 (hl:=?_)
           | refine AN (hl:=?_)
           | refine Al (hl:=?_)
           | refine Ad (hl:=?_)
           | refine As (hl:=?_)
           | refine At (hl:=?_)
           | refine AA (hl:=?_)
           | refine Ax (hl:=?_)
           | refine Ab (hl:=?_)
           | refine AH (hl:=?_)
           | refine AI (hl:=?_)
           | refine AU (hl:=?_)
           | refine AC (hl:=?_)
           | refine AB (hl:=?_)
           | refine AD (hl:=?_)
           | refine Au (hl:=?_)
           | refine Ao (hl:=?_)
           | refine Az (hl:=?_)
           | refine Cz hA (hc:=Z1) (hl:=?_)
           | refine Gd lt1 (hl:=?_)
           | refine Ar hA (hc:=S1) (hl:=?_))
          apply Ai.nil;try refine And.intro (by kernel_rfl) ?_)
       | refine Am ?_|refine An ?_)
      try refine Aq ?_
      refine CV 3 (by simp only [List.take_succ_cons,List.take_zero,List.drop_succ_cons,List.drop_zero];exact ⟨rfl,rfl⟩) (by kernel_rfl) ?_
      repeat (first
       | refine AN (hl:=?_)
       | refine Al (hl:=?_)
       | refine Ad (hl:=?_)
       | refine As (hl:=?_)
       | refine At (hl:=?_)
       | refine AA (hl:=?_)
       | refine Ax (hl:=?_)
       | refine Ab (hl:=?_)
       | refine AH (hl:=?_)
       | refine AI (hl:=?_)
       | refine AU (hl:=?_)
       | refine AC (hl:=?_)
       | refine AB (hl:=?_)
       | refine AD (hl:=?_)
       | refine Au (hl:=?_)
       | refine Ao (hl:=?_)
       | refine Az (hl:=?_))
      apply Ai.nil
      refine ES (k:=900) (ss:= [(0,.one (.ptr 901 0)),(1,AK (p:Nat)),(7,.one (.ptr 7 0)),(10,AK ((r+1:Nat):Int))]) (bs:= [(7,nmC (2+5*q) t),(901,C5 l P)]) (ns:=(nmC (2+5*q) t)) hD ?_ ?_ ?_
      ·exact ⟨by omega,by omega⟩
      ·refine AT ?_ ?_ rfl
       ·repeat (first|exact Ac|(refine List.forall_mem_cons.2 ⟨?_,?_⟩;focus (first|exact Ent.of_eq rfl|(refine Ent.one' rfl ?_;(first|exact Aa.ratsLe (by omega)|exact Aa.ratsNil|exact Aa.glNil|(refine Aa.int ?_;omega)|(refine Aa.glLen ?_;first|omega|simp)|exact Aa.of_eq rfl|(refine Aa.q rfl ?_;omega)|exact Z0 _|exact Z2 _|exact Aa.z0 (k:=0)|exact Aa.z1 (k:=0)|exact Aa.z2 (k:=0)|exact Aa.z0|exact Aa.z1|exact Aa.z2))|(refine Ent.agg' rfl ?_;(repeat (first|exact EntL.nil' rfl|(refine EntL.cons' rfl ?_ ?_;focus (first|exact Aa.ratsLe (by omega)|exact Aa.ratsNil|exact Aa.glNil|(refine Aa.int ?_;omega)|(refine Aa.glLen ?_;first|omega|simp)|exact Aa.of_eq rfl|(refine Aa.q rfl ?_;omega)|exact Z0 _|exact Z2 _|exact Aa.z0 (k:=0)|exact Aa.z1 (k:=0)|exact Aa.z2 (k:=0)|exact Aa.z0|exact Aa.z1|exact Aa.z2))));done))))
       ·repeat (first|exact Ac|(refine List.forall_mem_cons.2 ⟨?_,?_⟩;focus (first|exact Ap inferInstance|(refine AG rfl ?_ rfl;focus ((repeat (first|exact EntL.nil' rfl|(refine EntL.cons' rfl ?_ ?_;focus (first|exact Aa.ratsLe (by omega)|exact Aa.ratsNil|exact Aa.glNil|(refine Aa.int ?_;omega)|(refine Aa.glLen ?_;first|omega|simp)|exact Aa.of_eq rfl|(refine Aa.q rfl ?_;omega)|exact Z0 _|exact Z2 _|exact Aa.z0 (k:=0)|exact Aa.z1 (k:=0)|exact Aa.z2 (k:=0)|exact Aa.z0|exact Aa.z1|exact Aa.z2))));done)))))
      repeat (refine DI rfl ?_;(first|refine Ad (hl:=?_)|refine Al (hl:=?_)|refine At (hl:=?_));apply Ai.nil)
      refine DJ ?_
      repeat (first
       | refine Aq ?_|refine Ah ?_|refine Af rfl ?_|refine Ag rfl ?_
       | ((first|refine Ae (by kernel_rfl) ?_|refine Ak (by kernel_rfl) (by kernel_rfl) (by kernel_rfl) ?_)
          repeat (first
           | refine AN (hl:=?_)
           | refine Al (hl:=?_)
           | refine Ad (hl:=?_)
           | refine As (hl:=?_)
           | refine At (hl:=?_)
           | refine AA (hl:=?_)
           | refine Ax (hl:=?_)
           | refine Ab (hl:=?_)
           | refine AH (hl:=?_)
           | refine AI (hl:=?_)
           | refine AU (hl:=?_)
           | refine AC (hl:=?_)
           | refine AB (hl:=?_)
           | refine AD (hl:=?_)
           | refine Au (hl:=?_)
           | refine Ao (hl:=?_)
           | refine Az (hl:=?_))
          apply Ai.nil;try refine And.intro (by kernel_rfl) ?_)
       | refine Am ?_|refine An ?_)
      refine ⟨r,by omega,r,q+1,t,ks++ [t],P,rfl,by omega,hstep,by simp;omega,z3,?_⟩
      refine AT ?_ ?_ rfl
      ·repeat (first|exact Ac|(refine List.forall_mem_cons.2 ⟨?_,?_⟩;focus (first|exact Ent.of_eq rfl|(refine Ent.one' rfl ?_;(first|exact Aa.ratsLe (by omega)|exact Aa.ratsNil|exact Aa.glNil|(refine Aa.int ?_;omega)|(refine Aa.glLen ?_;first|omega|simp)|exact Aa.of_eq rfl|(refine Aa.q rfl ?_;omega)|exact Z0 _|exact Z2 _|exact Aa.z0 (k:=0)|exact Aa.z1 (k:=0)|exact Aa.z2 (k:=0)|exact Aa.z0|exact Aa.z1|exact Aa.z2))|(refine Ent.agg' rfl ?_;(repeat (first|exact EntL.nil' rfl|(refine EntL.cons' rfl ?_ ?_;focus (first|exact Aa.ratsLe (by omega)|exact Aa.ratsNil|exact Aa.glNil|(refine Aa.int ?_;omega)|(refine Aa.glLen ?_;first|omega|simp)|exact Aa.of_eq rfl|(refine Aa.q rfl ?_;omega)|exact Z0 _|exact Z2 _|exact Aa.z0 (k:=0)|exact Aa.z1 (k:=0)|exact Aa.z2 (k:=0)|exact Aa.z0|exact Aa.z1|exact Aa.z2))));done))))
      ·repeat (first|exact Ac|(refine List.forall_mem_cons.2 ⟨?_,?_⟩;focus (first|exact Ap inferInstance|(refine C7 inferInstance ?_;(repeat (first|exact EntL.nil' rfl|(refine EntL.cons' rfl ?_ ?_;focus (first|exact Aa.ratsLe (by omega)|exact Aa.ratsNil|exact Aa.glNil|(refine Aa.int ?_;omega)|(refine Aa.glLen ?_;first|omega|simp)|exact Aa.of_eq rfl|(refine Aa.q rfl ?_;omega)|exact Z0 _|exact Z2 _|exact Aa.z0 (k:=0)|exact Aa.z1 (k:=0)|exact Aa.z2 (k:=0)|exact Aa.z0|exact Aa.z1|exact Aa.z2))));done)|(refine AG rfl ?_ rfl;focus ((repeat (first|exact EntL.nil' rfl|(refine EntL.cons' rfl ?_ ?_;focus (first|exact Aa.ratsLe (by omega)|exact Aa.ratsNil|exact Aa.glNil|(refine Aa.int ?_;omega)|(refine Aa.glLen ?_;first|omega|simp)|exact Aa.of_eq rfl|(refine Aa.q rfl ?_;omega)|exact Z0 _|exact Z2 _|exact Aa.z0 (k:=0)|exact Aa.z1 (k:=0)|exact Aa.z2 (k:=0)|exact Aa.z0|exact Aa.z1|exact Aa.z2))));done)))))
 | zero=>
   have bi:=EP (k:= .i64) (decide_eq_false (show ¬(((0:Nat):Int))>0 by omega))
   obtain rfl:S=(t,ks,ps):=hS.symm
   have A1:=Hm (j:=2+5*q) (k:=2) (x:=t) (y:=one) (by omega) (by omega)
   have hq:q≤inner:=by omega
   obtain ⟨t2,ht2⟩: ∃t2,t2=t+one:=⟨_,rfl⟩
   rw [←ht2] at A1⊢
   repeat (first
    | refine Aq ?_|refine Ah ?_|refine Af rfl ?_|refine Ag rfl ?_
    | ((first|refine Ae (by kernel_rfl) ?_|refine Ak (by kernel_rfl) (by kernel_rfl) (by kernel_rfl) ?_)
       repeat (first
        | refine AN (hl:=?_)
        | refine Al (hl:=?_)
        | refine Ad (hl:=?_)
        | refine As (hl:=?_)
        | refine At (hl:=?_)
        | refine AA (hl:=?_)
        | refine Ax (hl:=?_)
        | refine Ab (hl:=?_)
        | refine AH (hl:=?_)
        | refine AI (hl:=?_)
        | refine AU (hl:=?_)
        | refine AC (hl:=?_)
        | refine AB (hl:=?_)
        | refine AD (hl:=?_)
        | refine Au (hl:=?_)
        | refine Ao (hl:=?_)
        | refine Az (hl:=?_)
        | refine Ar hA (hc:=I2) (hl:=?_)
        | refine Ar hA (hc:=A1) (hl:=?_))
       apply Ai.nil;try refine And.intro (by kernel_rfl) ?_)
    | refine Am ?_|refine An ?_)
   refine Cr (fun m σ=> ∃(i:Nat) (done:List Rat),m=p+1-i∧i≤p+1∧done=ks++List.replicate i t2∧Wk ⟨W0,base,D,80,[901],μ0⟩ σ [(1,AK (p:Nat)),(7,.one (.ptr 7 0)),(8,.one (.gl 900 done.length 3)),(11,AK (i:Nat))] [(900,Bz (nmD (5*inner+20)) done),(7,nmC (2+5*q+2+3) t2),(901,C5 l ps)]) (n:=p+1) ⟨0,ks,by omega,by omega,by simp,?_⟩ ?_
   ·refine AT ?_ ?_ rfl
    ·repeat (first|exact Ac|(refine List.forall_mem_cons.2 ⟨?_,?_⟩;focus (first|exact Ent.of_eq rfl|(refine Ent.one' rfl ?_;(first|exact Aa.ratsLe (by omega)|exact Aa.ratsNil|exact Aa.glNil|(refine Aa.int ?_;omega)|(refine Aa.glLen ?_;first|omega|simp)|exact Aa.of_eq rfl|(refine Aa.q rfl ?_;omega)|exact Z0 _|exact Z2 _|exact Aa.z0 (k:=0)|exact Aa.z1 (k:=0)|exact Aa.z2 (k:=0)|exact Aa.z0|exact Aa.z1|exact Aa.z2))|(refine Ent.agg' rfl ?_;(repeat (first|exact EntL.nil' rfl|(refine EntL.cons' rfl ?_ ?_;focus (first|exact Aa.ratsLe (by omega)|exact Aa.ratsNil|exact Aa.glNil|(refine Aa.int ?_;omega)|(refine Aa.glLen ?_;first|omega|simp)|exact Aa.of_eq rfl|(refine Aa.q rfl ?_;omega)|exact Z0 _|exact Z2 _|exact Aa.z0 (k:=0)|exact Aa.z1 (k:=0)|exact Aa.z2 (k:=0)|exact Aa.z0|exact Aa.z1|exact Aa.z2))));done))))
    ·repeat (first|exact Ac|(refine List.forall_mem_cons.2 ⟨?_,?_⟩;focus (first|exact Ap inferInstance|(refine AG rfl ?_ rfl;focus ((repeat (first|exact EntL.nil' rfl|(refine EntL.cons' rfl ?_ ?_;focus (first|exact Aa.ratsLe (by omega)|exact Aa.ratsNil|exact Aa.glNil|(refine Aa.int ?_;omega)|(refine Aa.glLen ?_;first|omega|simp)|exact Aa.of_eq rfl|(refine Aa.q rfl ?_;omega)|exact Z0 _|exact Z2 _|exact Aa.z0 (k:=0)|exact Aa.z1 (k:=0)|exact Aa.z2 (k:=0)|exact Aa.z0|exact Aa.z1|exact Aa.z2))));done)))))
   intro m σ hI
   obtain ⟨i,done,hm,hi0,hdone,hw⟩:=hI
   refine Dp hw ?_
   clear hw
   have hdl:done.length=ks.length+i:=by rw [hdone];simp
   by_cases hip:i<p+1
   ·have bi:=Iu (k:= .i64) (decide_eq_true (show (i:Int)≤(p:Int) by omega))
    have hin:=BJ (k:= .i64) (show (IntKind.i64).wrap ((i:Int)+1)=((i+1:Nat):Int) from IntWalk.i64_in _ (by omega))
    repeat (first
     | refine Aq ?_|refine Ah ?_|refine Af rfl ?_|refine Ag rfl ?_
     | ((first|refine Ae (by kernel_rfl) ?_|refine Ak (by kernel_rfl) (by kernel_rfl) (by kernel_rfl) ?_)
        repeat (first
         | refine AN (hl:=?_)
         | refine Al (hl:=?_)
         | refine Ad (hl:=?_)
         | refine As (hl:=?_)
         | refine At (hl:=?_)
         | refine AA (hl:=?_)
         | refine Ax (hl:=?_)
         | refine Ab (hl:=?_)
         | refine AH (hl:=?_)
         | refine AI (hl:=?_)
         | refine AU (hl:=?_)
         | refine AC (hl:=?_)
         | refine AB (hl:=?_)
         | refine AD (hl:=?_)
         | refine Au (hl:=?_)
         | refine Ao (hl:=?_)
         | refine Az (hl:=?_))
        apply Ai.nil;try refine And.intro (by kernel_rfl) ?_)
     | refine Am ?_|refine An ?_)
    try refine Aq ?_
    refine CV 3 (by simp only [List.take_succ_cons,List.take_zero,List.drop_succ_cons,List.drop_zero];exact ⟨rfl,rfl⟩) (by kernel_rfl) ?_
    repeat (first
     | refine AN (hl:=?_)
     | refine Al (hl:=?_)
     | refine Ad (hl:=?_)
     | refine As (hl:=?_)
     | refine At (hl:=?_)
     | refine AA (hl:=?_)
     | refine Ax (hl:=?_)
     | refine Ab (hl:=?_)
     | refine AH (hl:=?_)
     | refine AI (hl:=?_)
     | refine AU (hl:=?_)
     | refine AC (hl:=?_)
     | refine AB (hl:=?_)
     | refine AD (hl:=?_)
     | refine Au (hl:=?_)
     | refine Ao (hl:=?_)
     | refine Az (hl:=?_))
    apply Ai.nil
    refine ES (k:=900) (ss:= [(1,AK (p:Nat)),(7,.one (.ptr 7 0)),(11,AK (i:Nat))]) (bs:= [(7,nmC (2+5*q+2+3) t2),(901,C5 l ps)]) (ns:=(nmC (2+5*q+2+3) t2)) hD ?_ ?_ ?_
    ·exact ⟨by omega,by omega⟩
    ·refine AT ?_ ?_ rfl
     ·repeat (first|exact Ac|(refine List.forall_mem_cons.2 ⟨?_,?_⟩;focus (first|exact Ent.of_eq rfl|(refine Ent.one' rfl ?_;(first|exact Aa.ratsLe (by omega)|exact Aa.ratsNil|exact Aa.glNil|(refine Aa.int ?_;omega)|(refine Aa.glLen ?_;first|omega|simp)|exact Aa.of_eq rfl|(refine Aa.q rfl ?_;omega)|exact Z0 _|exact Z2 _|exact Aa.z0 (k:=0)|exact Aa.z1 (k:=0)|exact Aa.z2 (k:=0)|exact Aa.z0|exact Aa.z1|exact Aa.z2))|(refine Ent.agg' rfl ?_;(repeat (first|exact EntL.nil' rfl|(refine EntL.cons' rfl ?_ ?_;focus (first|exact Aa.ratsLe (by omega)|exact Aa.ratsNil|exact Aa.glNil|(refine Aa.int ?_;omega)|(refine Aa.glLen ?_;first|omega|simp)|exact Aa.of_eq rfl|(refine Aa.q rfl ?_;omega)|exact Z0 _|exact Z2 _|exact Aa.z0 (k:=0)|exact Aa.z1 (k:=0)|exact Aa.z2 (k:=0)|exact Aa.z0|exact Aa.z1|exact Aa.z2))));done))))
     ·repeat (first|exact Ac|(refine List.forall_mem_cons.2 ⟨?_,?_⟩;focus (first|exact Ap inferInstance|(refine AG rfl ?_ rfl;focus ((repeat (first|exact EntL.nil' rfl|(refine EntL.cons' rfl ?_ ?_;focus (first|exact Aa.ratsLe (by omega)|exact Aa.ratsNil|exact Aa.glNil|(refine Aa.int ?_;omega)|(refine Aa.glLen ?_;first|omega|simp)|exact Aa.of_eq rfl|(refine Aa.q rfl ?_;omega)|exact Z0 _|exact Z2 _|exact Aa.z0 (k:=0)|exact Aa.z1 (k:=0)|exact Aa.z2 (k:=0)|exact Aa.z0|exact Aa.z1|exact Aa.z2))));done)))))
    repeat (refine DI rfl ?_;(first|refine Ad (hl:=?_)|refine Al (hl:=?_)|refine At (hl:=?_));apply Ai.nil)
    refine DJ ?_
    repeat (first
     | refine Aq ?_|refine Ah ?_|refine Af rfl ?_|refine Ag rfl ?_
     | ((first|refine Ae (by kernel_rfl) ?_|refine Ak (by kernel_rfl) (by kernel_rfl) (by kernel_rfl) ?_)
        repeat (first
         | refine AN (hl:=?_)
         | refine Al (hl:=?_)
         | refine Ad (hl:=?_)
         | refine As (hl:=?_)
         | refine At (hl:=?_)
         | refine AA (hl:=?_)
         | refine Ax (hl:=?_)
         | refine Ab (hl:=?_)
         | refine AH (hl:=?_)
         | refine AI (hl:=?_)
         | refine AU (hl:=?_)
         | refine AC (hl:=?_)
         | refine AB (hl:=?_)
         | refine AD (hl:=?_)
         | refine Au (hl:=?_)
         | refine Ao (hl:=?_)
         | refine Az (hl:=?_))
        apply Ai.nil;try refine And.intro (by kernel_rfl) ?_)
     | refine Am ?_|refine An ?_)
    refine ⟨m-1,by omega,i+1,done++ [t2],by omega,by omega,?_,?_⟩
    ·rw [hdone,List.append_assoc,List.replicate_succ']
    ·refine AT ?_ ?_ rfl
     ·repeat (first|exact Ac|(refine List.forall_mem_cons.2 ⟨?_,?_⟩;focus (first|exact Ent.of_eq rfl|(refine Ent.one' rfl ?_;(first|exact Aa.ratsLe (by omega)|exact Aa.ratsNil|exact Aa.glNil|(refine Aa.int ?_;omega)|(refine Aa.glLen ?_;first|omega|simp)|exact Aa.of_eq rfl|(refine Aa.q rfl ?_;omega)|exact Z0 _|exact Z2 _|exact Aa.z0 (k:=0)|exact Aa.z1 (k:=0)|exact Aa.z2 (k:=0)|exact Aa.z0|exact Aa.z1|exact Aa.z2))|(refine Ent.agg' rfl ?_;(repeat (first|exact EntL.nil' rfl|(refine EntL.cons' rfl ?_ ?_;focus (first|exact Aa.ratsLe (by omega)|exact Aa.ratsNil|exact Aa.glNil|(refine Aa.int ?_;omega)|(refine Aa.glLen ?_;first|omega|simp)|exact Aa.of_eq rfl|(refine Aa.q rfl ?_;omega)|exact Z0 _|exact Z2 _|exact Aa.z0 (k:=0)|exact Aa.z1 (k:=0)|exact Aa.z2 (k:=0)|exact Aa.z0|exact Aa.z1|exact Aa.z2))));done))))
     ·repeat (first|exact Ac|(refine List.forall_mem_cons.2 ⟨?_,?_⟩;focus (first|exact Ap inferInstance|(refine C7 inferInstance ?_;(repeat (first|exact EntL.nil' rfl|(refine EntL.cons' rfl ?_ ?_;focus (first|exact Aa.ratsLe (by omega)|exact Aa.ratsNil|exact Aa.glNil|(refine Aa.int ?_;omega)|(refine Aa.glLen ?_;first|omega|simp)|exact Aa.of_eq rfl|(refine Aa.q rfl ?_;omega)|exact Z0 _|exact Z2 _|exact Aa.z0 (k:=0)|exact Aa.z1 (k:=0)|exact Aa.z2 (k:=0)|exact Aa.z0|exact Aa.z1|exact Aa.z2))));done)|(refine AG rfl ?_ rfl;focus ((repeat (first|exact EntL.nil' rfl|(refine EntL.cons' rfl ?_ ?_;focus (first|exact Aa.ratsLe (by omega)|exact Aa.ratsNil|exact Aa.glNil|(refine Aa.int ?_;omega)|(refine Aa.glLen ?_;first|omega|simp)|exact Aa.of_eq rfl|(refine Aa.q rfl ?_;omega)|exact Z0 _|exact Z2 _|exact Aa.z0 (k:=0)|exact Aa.z1 (k:=0)|exact Aa.z2 (k:=0)|exact Aa.z0|exact Aa.z1|exact Aa.z2))));done)))))
   ·have bi:=Iu (k:= .i64) (decide_eq_false (show ¬(i:Int)≤(p:Int) by omega))
    obtain rfl:i=p+1:=by omega
    show Aw _ _ _ _ _
    repeat (first
     | refine Aq ?_|refine Ah ?_|refine Af rfl ?_|refine Ag rfl ?_
     | ((first|refine Ae (by kernel_rfl) ?_|refine Ak (by kernel_rfl) (by kernel_rfl) (by kernel_rfl) ?_)
        repeat (first
         | refine AN (hl:=?_)
         | refine Al (hl:=?_)
         | refine Ad (hl:=?_)
         | refine As (hl:=?_)
         | refine At (hl:=?_)
         | refine AA (hl:=?_)
         | refine Ax (hl:=?_)
         | refine Ab (hl:=?_)
         | refine AH (hl:=?_)
         | refine AI (hl:=?_)
         | refine AU (hl:=?_)
         | refine AC (hl:=?_)
         | refine AB (hl:=?_)
         | refine AD (hl:=?_)
         | refine Au (hl:=?_)
         | refine Ao (hl:=?_)
         | refine Az (hl:=?_))
        apply Ai.nil;try refine And.intro (by kernel_rfl) ?_)
     | refine Am ?_|refine An ?_)
    refine Dg 900 hD (ss:= [(6,.one (BF (5*inner+20) done))]) (bs:= [(901,C5 l ps)]) ?_ ?_
    ·refine Ie ?_ ?_ rfl
     ·repeat (first|exact Ac|(refine List.forall_mem_cons.2 ⟨?_,?_⟩;focus (first|exact FH inferInstance|refine FzA.ent ?_;first|exact Ent.of_eq rfl|(refine Ent.one' rfl ?_;(first|exact Aa.ratsLe (by omega)|exact Aa.ratsNil|exact Aa.glNil|(refine Aa.int ?_;omega)|(refine Aa.glLen ?_;first|omega|simp)|exact Aa.of_eq rfl|(refine Aa.q rfl ?_;omega)|exact Z0 _|exact Z2 _|exact Aa.z0 (k:=0)|exact Aa.z1 (k:=0)|exact Aa.z2 (k:=0)|exact Aa.z0|exact Aa.z1|exact Aa.z2))|(refine Ent.agg' rfl ?_;(repeat (first|exact EntL.nil' rfl|(refine EntL.cons' rfl ?_ ?_;focus (first|exact Aa.ratsLe (by omega)|exact Aa.ratsNil|exact Aa.glNil|(refine Aa.int ?_;omega)|(refine Aa.glLen ?_;first|omega|simp)|exact Aa.of_eq rfl|(refine Aa.q rfl ?_;omega)|exact Z0 _|exact Z2 _|exact Aa.z0 (k:=0)|exact Aa.z1 (k:=0)|exact Aa.z2 (k:=0)|exact Aa.z0|exact Aa.z1|exact Aa.z2))));done))))
     ·repeat (first|exact Ac|(refine List.forall_mem_cons.2 ⟨?_,?_⟩;focus (first|exact Ap inferInstance|(refine AG rfl ?_ rfl;focus ((repeat (first|exact EntL.nil' rfl|(refine EntL.cons' rfl ?_ ?_;focus (first|exact Aa.ratsLe (by omega)|exact Aa.ratsNil|exact Aa.glNil|(refine Aa.int ?_;omega)|(refine Aa.glLen ?_;first|omega|simp)|exact Aa.of_eq rfl|(refine Aa.q rfl ?_;omega)|exact Z0 _|exact Z2 _|exact Aa.z0 (k:=0)|exact Aa.z1 (k:=0)|exact Aa.z2 (k:=0)|exact Aa.z0|exact Aa.z1|exact Aa.z2))));done)))))
    rw [hdone]
    refine A9 (And.intro (Or.inr rfl) ?_)
    exact M7
theorem Su {l:List Int} {n p inner k:Nat} (hb: ∀x∈l,-9223372036854775808≤x∧x<9223372036854775808) (hl:l.length≤1000000) (hn:n≤l.length) (hp:1≤p∧p≤100) (hi:inner≤1000):
  Cj Tryz.prog Amb 55 [.one (.ptr k 0),AK (p:Nat),AK (inner:Nat)] [(k,C5 l n,C5 l (knS l p inner n).2.2)] (.one (BF (5*inner+20) (knR l p inner n))):=
 (Rf hb hl hn hp hi).at1 k rfl rfl
theorem Tv {l:List Int} {p n:Nat} {t:Rat} {ks:List Rat} :t≤(knT l p t ks n).1:=by
 unfold knT
 split
 ·obtain ⟨x1,_,_⟩:=D4 l (knC l p t ks n).2 (m:=3) (by decide)
  obtain ⟨y1,_,_⟩:=D4 l (nxt l (knC l p t ks n).2 3).2 (m:=2) (by decide)
  generalize (nxt l (knC l p t ks n).2 3).1=a at*
  generalize (nxt l (nxt l (knC l p t ks n).2 3).2 2).1=b at*
  have h1:(0:Rat)≤((1+a:Int):Rat)/((1+b:Int):Rat):=by
   rw [Rat.div_def]
   refine Rat.mul_nonneg ?_ (Rat.le_of_lt (Rat.inv_pos.2 ?_))
   ·exact_mod_cast (show (0:Int)≤1+a by omega)
   ·exact_mod_cast (show (0:Int)<1+b by omega)
  show t≤t+_
  grind
 ·exact Rat.le_refl
theorem QN {l:List Int} {p:Nat} : ∀ {m:Nat} {s:Rat×List Rat×Nat},s.1≤(knL l p m s).1
 | 0,_=>Rat.le_refl
 | m+1,s=>Rat.le_trans Tv (QN (m:=m) (s:=((knT l p s.1 s.2.1 s.2.2).1,s.2.1++ [(knT l p s.1 s.2.1 s.2.2).1],(knT l p s.1 s.2.1 s.2.2).2)))
theorem LC {l:List Int} {p:Nat} : ∀ {m:Nat} {s:Rat×List Rat×Nat},0<s.2.1.length→(knL l p m s).2.1.getD 0 0=s.2.1.getD 0 0
 | 0,_,_=>rfl
 | m+1,s,h=>by
   show (knL l p m _).2.1.getD 0 0=_
   rw [LC (m:=m) (by simp)]
   simp only [List.getD_eq_getElem?_getD]
   rw [List.getElem?_append_left h]
theorem Sd {l:List Int} {p inner n:Nat} :(knR l p inner n).length=2*p+2+(nxt l (nxt l n 4).2 (inner+1:Nat)).1.toNat:=by
 unfold knR knS
 rw [List.length_append,JW,List.length_replicate]
 simp
 omega
theorem Sc {l:List Int} {p inner n:Nat} :2*p+2≤(knR l p inner n).length∧(knR l p inner n).length≤2*p+2+inner:=by
 rw [Sd]
 obtain ⟨x1,x2,_⟩:=D4 l (nxt l n 4).2 (m:=((inner+1:Nat):Int)) (by omega)
 omega
theorem Se {l:List Int} {p inner n:Nat} :Fp (knR l p inner n)=(((nxt l n 4).1-2:Int):Rat):=by
 unfold Fp knR
 have h:0<(knS l p inner n).2.1.length:=by
  unfold knS
  rw [JW];simp;omega
 rw [List.getD_eq_getElem?_getD,List.getElem?_append_left h,←List.getD_eq_getElem?_getD]
 unfold knS
 rw [LC (by simp)]
 rfl
theorem Sb {l:List Int} {p inner n:Nat} :FD (knR l p inner n)=(knS l p inner n).1+((1:Int):Rat):=by
 unfold FD knR
 rw [List.getD_eq_getElem?_getD,List.getElem?_append_right (by rw [List.length_append,List.length_replicate];omega)]
 rw [List.length_append,List.length_replicate,List.getElem?_replicate,if_pos (by omega)]
 rfl
theorem QM {l:List Int} {p inner n:Nat} :FD (knR l p inner n)-Fp (knR l p inner n)≠0:=by
 rw [Se,Sb]
 have h:(((nxt l n 4).1-2:Int):Rat)≤(knS l p inner n).1:=QN (s:=((((nxt l n 4).1-2:Int):Rat),_,_))
 generalize (((nxt l n 4).1-2:Int):Rat)=a at*
 generalize (knS l p inner n).1=b at*
 have e:((1:Int):Rat)=1:=rfl
 rw [e]
 intro h0
 grind
def mdP (l:List Int):Nat:=1+(nxt l 0 5).1.toNat
def mdK (l:List Int):List Rat:=knR l (mdP l) 6 (nxt l 0 5).2
theorem QE (l:List Int):1≤mdP l∧mdP l≤5:=by
 obtain ⟨x1,x2,_⟩:=D4 l 0 (m:=5) (by decide)
 unfold mdP
 omega
theorem TE {l:List Int} (hb: ∀x∈l,-9223372036854775808≤x∧x<9223372036854775808) (hl:l.length≤1000000):
  Ctr Tryz.prog Amb 13 [.one (.ints l)] (.tup [.one (BF 50 (mdK l)),AK (mdP l:Nat)]):=by
 obtain ⟨x1,x2,x3⟩:=D4 l 0 (m:=5) (by decide)
 have hpb:=QE l
 have N1:=Ec (k:=7) (n:=0) (m:=5) hb hl (Nat.zero_le _) (by decide) (by decide)
 have w1:=BJ (k:= .i64) (show (IntKind.i64).wrap (1+(nxt l 0 5).1)=(mdP l:Int) by
  have e:(1+(nxt l 0 5).1)=(mdP l:Int):=by unfold mdP;omega
  rw [e];exact IntWalk.i64_in _ (by omega))
 have K1:=Su (k:=7) (n:=(nxt l 0 5).2) (p:=mdP l) (inner:=6) hb hl (x3 (Nat.zero_le _)) (by omega) (by omega)
 unfold mdK
 refine AW Tryz.func13 rfl rfl rfl rfl rfl rfl ?_
 intro W0 base D μ0 hA hD
 repeat (first
  | refine Aq ?_|refine Ah ?_|refine Af rfl ?_|refine Ag rfl ?_
  | ((first|refine Ae (by kernel_rfl) ?_|refine Ak (by kernel_rfl) (by kernel_rfl) (by kernel_rfl) ?_)
     repeat (first
      | refine Al (hl:=?_)
      | refine Ad (hl:=?_)
      | refine Ax (hl:=?_)
      | refine Rx hA (hc:=TD l) (hl:=?_)
      | refine Cz hA (hc:=N1) (hl:=?_)
      | refine Cz hA (hc:=K1) (hl:=?_))
     apply Ai.nil;try refine And.intro (by kernel_rfl) ?_)
  | refine Am ?_|refine An ?_)
 refine A9 (And.intro (Or.inr rfl) ?_)
 exact I8
end Go.Proofs.YtoabfmaagnmlhaaGreatDoor
