/-
  Several texts in one: Ng, Nk.
-/
import Derived.Test.YtfineedhebhpaaaGreatDoorHn
import Derived.Test.YtfineedhebhpaaaGreatDoorGs
import Derived.RangeFuncNested
import Derived.RangeFuncBound
import Derived.RangeFuncCalls
import Derived.RangeFuncLeaves
import Derived.OwnWalkIn
import Derived.TacticsInMore
import Derived.LoopNIn
import Derived.LoopIn
namespace Go.Proofs.YtfineedhebhpaaaGreatDoor
open Nat renaming le_refl→Xv
open Go.RowKit
set_option linter.unusedVariables false
set_option linter.unusedSimpArgs false
set_option maxRecDepth 20000
set_option maxHeartbeats 4000000
def knC (l:List Int) (p:Nat) (t:Rat) (ks:List Rat) (n:Nat):Bool×Nat:=
 if ks.length=p+1 then (true,n) else if 0<(nxt l n 3).1 then (true,(nxt l n 3).2) else (decide (t=ks.getD (ks.length-p) 0),(nxt l n 3).2)
def knT (l:List Int) (p:Nat) (t:Rat) (ks:List Rat) (n:Nat):Rat×Nat:=
 if (knC l p t ks n).1 then (t+((1+(nxt l (knC l p t ks n).2 3).1:Int):Rat)/((1+(nxt l (nxt l (knC l p t ks n).2 3).2 2).1:Int):Rat),(nxt l (nxt l (knC l p t ks n).2 3).2 2).2) else (t,(knC l p t ks n).2)
def knL (l:List Int) (p:Nat):Nat→Rat×List Rat×Nat→Rat×List Rat×Nat
 | 0,s=>s
 | m+1,s=>knL l p m ((knT l p s.1 s.2.1 s.2.2).1,s.2.1++ [(knT l p s.1 s.2.1 s.2.2).1],(knT l p s.1 s.2.1 s.2.2).2)
def knS (l:List Int) (p inner:Nat) (n:Nat):Rat×List Rat×Nat:=
 knL l p (nxt l (nxt l n 4).2 (inner+1:Nat)).1.toNat ((((nxt l n 4).1-2:Int):Rat),List.replicate (p+1) (((nxt l n 4).1-2:Int):Rat),(nxt l (nxt l n 4).2 (inner+1:Nat)).2)
def knR (l:List Int) (p inner n:Nat):List Rat:=(knS l p inner n).2.1++List.replicate (p+1) ((knS l p inner n).1+((1:Int):Rat))
theorem PX {l:List Int} {p:Nat} : ∀ {m:Nat} {s:Rat×List Rat×Nat},(knL l p m s).2.1.length=s.2.1.length+m
 | 0,_=>rfl
 | m+1,s=>by
   show (knL l p m _).2.1.length=_
   rw [PX (m:=m),List.length_append];simp;omega
theorem Nc {l:List Int} {p n:Nat} {t:Rat} {ks:List Rat} (h:(knC l p t ks n).1=true):knT l p t ks n=(t+((1+(nxt l (knC l p t ks n).2 3).1:Int):Rat)/((1+(nxt l (nxt l (knC l p t ks n).2 3).2 2).1:Int):Rat),(nxt l (nxt l (knC l p t ks n).2 3).2 2).2):=by unfold knT;rw [if_pos h]
theorem PW {l:List Int} {p n:Nat} {t:Rat} {ks:List Rat} (h: ¬(knC l p t ks n).1=true):knT l p t ks n=(t,(knC l p t ks n).2):=by unfold knT;rw [if_neg h]
theorem TW {l:List Int} {n p inner:Nat} (hb: ∀x∈l,-9223372036854775808≤x∧x<9223372036854775808) (hl:l.length≤1000000) (hn:n≤l.length) (hp:1≤p∧p≤100) (hi:inner≤1000):
  B9 Tryz.prog Amb 132 [.one (.ptr 901 0),Au (p:Nat),Au (inner:Nat)] [(901,Dx l n,Dx l (knS l p inner n).2.2)] (.one (BI (5*inner+20) (knR l p inner n))):=by
 obtain ⟨a1,a2,a3⟩:=EN l n (m:=4) (by decide)
 have g1:=a3 hn
 obtain ⟨b1,b2,b3⟩:=EN l (nxt l n 4).2 (m:=((inner+1:Nat):Int)) (by omega)
 have g2:=b3 g1
 clear a3 b3
 have N1:=EU (k:=901) (n:=n) (m:=4) hb hl hn (by decide) (by decide)
 have N2:=EU (k:=901) (n:=(nxt l n 4).2) (m:=((inner+1:Nat):Int)) hb hl g1 (by omega) (by omega)
 have hs:=Cq (k:= .i64) (show (IntKind.i64).wrap ((nxt l n 4).1-2)=(nxt l n 4).1-2 from IntWalk.i64_in _ (by omega))
 have hs2:=BD (k:= .i64) (show (IntKind.i64).wrap ((inner:Int)+1)=((inner+1:Nat):Int) from IntWalk.i64_in _ (by omega))
 have I1:=IW (n:=(nxt l n 4).1-2) (by rw [decide_eq_true (show-9223372036854775808≤(nxt l n 4).1-2 by omega),decide_eq_true (show (nxt l n 4).1-2<9223372036854775808 by omega)];rfl)
 have I2:=IW (n:=1) rfl
 obtain ⟨S,hS⟩: ∃S,S=knS l p inner n:=⟨_,rfl⟩
 unfold knR
 rw [←hS]
 unfold knS at hS
 generalize (((nxt l n 4).1-2:Int):Rat)=t0 at*
 obtain ⟨c,hc⟩: ∃c:Nat,c=(nxt l (nxt l n 4).2 ((inner+1:Nat):Int)).1.toNat:=⟨_,rfl⟩
 have hci:(nxt l (nxt l n 4).2 ((inner+1:Nat):Int)).1=(c:Int):=by omega
 have hcb:c≤inner:=by omega
 rw [←hc] at hS
 rw [hci] at N2
 generalize (nxt l (nxt l n 4).2 ((inner+1:Nat):Int)).2=n2 at*
 generalize (nxt l n 4).2=n1 at*
 generalize (nxt l n 4).1=a at*
 generalize ((1:Int):Rat)=one at*
 apply AK Tryz.func132 rfl rfl rfl rfl rfl
 case hin=>simp [inA,inC]
 intro W0 base D μ0 hA hD
 repeat (first|refine Aj ?_|refine Ae ?_|refine Ac rfl ?_|refine Ad rfl ?_|refine AW ?_|refine AX ?_|refine Ag ?_|refine Ah ?_)
 refine Cs (fun m σ=> ∃(i:Nat),m=p+1-i∧i≤p+1∧Wk ⟨W0,base,D,80,[901],μ0⟩ σ [(0,.one (.ptr 901 0)),(1,Au (p:Nat)),(2,Au (inner:Nat)),(7,.one (.ptr 7 0)),(8,.one (.gl 900 (List.replicate i t0).length 3)),(9,Au (i:Nat))] [(900,Al (nmD (5*inner+20)) (List.replicate i t0)),(7,nmC 2 t0),(901,Dx l n1)]) (n:=p+1) ⟨0,by omega,by omega,?_⟩ ?_
 ·exact BN
 intro m σ hI
 obtain ⟨i,hm,hi0,hw⟩:=hI
 refine C7 hw ?_
 clear hw
 have hr:(List.replicate i t0).length=i:=by simp
 by_cases hip:i<p+1
 ·have bi:=JH (k:= .i64) (decide_eq_true (show (i:Int)≤(p:Int) by omega))
  have hin:=BD (k:= .i64) (show (IntKind.i64).wrap ((i:Int)+1)=((i+1:Nat):Int) from IntWalk.i64_in _ (by omega))
  repeat (first|refine Aj ?_|refine Ae ?_|refine Ac rfl ?_|refine Ad rfl ?_|refine AW ?_|refine AX ?_|refine Ag ?_|refine Ah ?_)
  try refine Aj ?_
  refine Dr 3 (by simp only [List.take_succ_cons,List.take_zero,List.drop_succ_cons,List.drop_zero];exact ⟨rfl,rfl⟩) (by kernel_rfl) ?_
  repeat (first
   | refine BP (hl:=?_)
   | refine Aq (hl:=?_)
   | refine Ai (hl:=?_)
   | refine AA (hl:=?_)
   | refine Ay (hl:=?_)
   | refine AG (hl:=?_)
   | refine AJ (hl:=?_)
   | refine Ak (hl:=?_)
   | refine BA (hl:=?_)
   | refine BB (hl:=?_)
   | refine AR (hl:=?_)
   | refine AO (hl:=?_)
   | refine AN (hl:=?_)
   | refine AP (hl:=?_)
   | refine AB (hl:=?_)
   | refine Av (hl:=?_)
   | refine BO (hl:=?_))
  apply Ab.nil
  refine Hq (k:=900) (ss:= [(0,.one (.ptr 901 0)),(1,Au (p:Nat)),(2,Au (inner:Nat)),(7,.one (.ptr 7 0)),(9,Au (i:Nat))]) (bs:= [(7,nmC 2 t0),(901,Dx l n1)]) (ns:=(nmC 2 t0)) hD ?_ ?_ ?_
  ·exact ⟨by omega,by omega⟩
  ·exact BN
  repeat (refine FC rfl ?_;(first|refine Ai (hl:=?_)|refine Aq (hl:=?_)|refine Ay (hl:=?_));apply Ab.nil)
  refine FD ?_
  repeat (first|refine Aj ?_|refine Ae ?_|refine Ac rfl ?_|refine Ad rfl ?_|refine AW ?_|refine AX ?_|refine Ag ?_|refine Ah ?_)
  refine ⟨m-1,by omega,i+1,by omega,by omega,?_⟩
  rw [List.replicate_succ']
  exact BN
 obtain rfl:i=p+1:=by omega
 have bi:=JH (k:= .i64) (decide_eq_false (show ¬((p+1:Nat):Int)≤(p:Int) by omega))
 repeat (first|refine Aj ?_|refine Ae ?_|refine Ac rfl ?_|refine Ad rfl ?_|refine AW ?_|refine AX ?_|refine Ag ?_|refine Ah ?_)
 refine Cs (fun m σ=> ∃(r q:Nat) (t:Rat) (ks:List Rat) (ps:Nat),m=r∧r+q=c∧knL l p r (t,ks,ps)=S∧ks.length=p+1+q∧ps≤l.length∧Wk ⟨W0,base,D,80,[901],μ0⟩ σ [(0,.one (.ptr 901 0)),(1,Au (p:Nat)),(7,.one (.ptr 7 0)),(8,.one (.gl 900 ks.length 3)),(10,Au (r:Nat))] [(900,Al (nmD (5*inner+20)) ks),(7,nmC (2+5*q) t),(901,Dx l ps)]) (n:=c) ⟨c,0,t0,List.replicate (p+1) t0,n2,by omega,by omega,hS.symm,by simp,g2,?_⟩ ?_
 ·exact BN
 clear N1 N2 hS hc hr bi hs hs2 I1 a1 a2 b1 b2 hci
 intro m σ hI
 obtain ⟨r,q,t,ks,ps,hm,hrq,hS,hkl,hps,hw⟩:=hI
 refine C7 hw ?_
 clear hw
 have hk3:(ks.length+1)*56≤140737488355328:=by omega
 cases r with
 | succ r=>
   have bi:=DY (k:= .i64) (decide_eq_true (show ((r+1:Nat):Int)>0 by omega))
   have hin:=Cq (k:= .i64) (show (IntKind.i64).wrap (((r+1:Nat):Int)-1)=(r:Int) by rw [show (((r+1:Nat):Int)-1)=(r:Int) by omega];exact IntWalk.i64_in _ (by omega))
   have b0:=BD (k:= .i64) (show (IntKind.i64).wrap ((p:Int)+1)=((p+1:Nat):Int) from IntWalk.i64_in _ (by omega))
   have hstep:knL l p r ((knT l p t ks ps).1,ks++ [(knT l p t ks ps).1],(knT l p t ks ps).2)=S:=hS
   have hnew: ∀(ps2:Nat),ps2≤l.length→(knC l p t ks ps)=(true,ps2)→0≤(nxt l ps2 3).1∧(nxt l ps2 3).1<3∧(nxt l ps2 3).2≤l.length∧0≤(nxt l (nxt l ps2 3).2 2).1∧(nxt l (nxt l ps2 3).2 2).1<2∧(nxt l (nxt l ps2 3).2 2).2≤l.length∧knT l p t ks ps=(t+((1+(nxt l ps2 3).1:Int):Rat)/((1+(nxt l (nxt l ps2 3).2 2).1:Int):Rat),(nxt l (nxt l ps2 3).2 2).2):=fun ps2 h2 he=>by
    obtain ⟨x1,x2,x3⟩:=EN l ps2 (m:=3) (by decide)
    obtain ⟨y1,y2,y3⟩:=EN l (nxt l ps2 3).2 (m:=2) (by decide)
    refine ⟨x1,x2,x3 h2,y1,y2,y3 (x3 h2),?_⟩
    rw [Nc (by rw [he]),he]
   by_cases hA1:ks.length=p+1
   ·have e1:knC l p t ks ps=(true,ps):=by unfold knC;rw [if_pos hA1]
    have c1:=Fx (k:= .i64) (decide_eq_true (show (ks.length:Int)=((p+1:Nat):Int) by omega))
    obtain ⟨x1,x2,x3,y1,y2,y3,hT⟩:=hnew ps hps e1
    have X1:=EU (k:=901) (n:=ps) (m:=3) hb hl hps (by decide) (by decide)
    have Y1:=EU (k:=901) (n:=(nxt l ps 3).2) (m:=2) hb hl x3 (by decide) (by decide)
    have w1:=BD (k:= .i64) (show (IntKind.i64).wrap (1+(nxt l ps 3).1)=1+(nxt l ps 3).1 from IntWalk.i64_in _ (by omega))
    have w2:=BD (k:= .i64) (show (IntKind.i64).wrap (1+(nxt l (nxt l ps 3).2 2).1)=1+(nxt l (nxt l ps 3).2 2).1 from IntWalk.i64_in _ (by omega))
    have F1:=Li (n:=1+(nxt l ps 3).1) (d:=1+(nxt l (nxt l ps 3).2 2).1) (by rw [decide_eq_true (show-9223372036854775808≤1+(nxt l ps 3).1 by omega),decide_eq_true (show 1+(nxt l ps 3).1<9223372036854775808 by omega),decide_eq_true (show 1≤1+(nxt l (nxt l ps 3).2 2).1 by omega),decide_eq_true (show 1+(nxt l (nxt l ps 3).2 2).1<9223372036854775808 by omega)];rfl)
    have A1:=ME (j:=2+5*q) (k:=2) (x:=t) (y:=((1+(nxt l ps 3).1:Int):Rat)/((1+(nxt l (nxt l ps 3).2 2).1:Int):Rat)) (by omega) (by omega)
    rw [hT] at hstep
    generalize t+((1+(nxt l ps 3).1:Int):Rat)/((1+(nxt l (nxt l ps 3).2 2).1:Int):Rat)=t' at*
    generalize (nxt l (nxt l ps 3).2 2).2=ps' at*
    repeat (first|refine Aj ?_|refine Ae ?_|refine Ac rfl ?_|refine Ad rfl ?_|refine AW ?_|refine AX ?_|refine Ag ?_|refine Ah ?_)
    try refine Aj ?_
    refine Dr 3 (by simp only [List.take_succ_cons,List.take_zero,List.drop_succ_cons,List.drop_zero];exact ⟨rfl,rfl⟩) (by kernel_rfl) ?_
    repeat (first
     | refine BP (hl:=?_)
     | refine Aq (hl:=?_)
     | refine Ai (hl:=?_)
     | refine AA (hl:=?_)
     | refine Ay (hl:=?_)
     | refine AG (hl:=?_)
     | refine AJ (hl:=?_)
     | refine Ak (hl:=?_)
     | refine BA (hl:=?_)
     | refine BB (hl:=?_)
     | refine AR (hl:=?_)
     | refine AO (hl:=?_)
     | refine AN (hl:=?_)
     | refine AP (hl:=?_)
     | refine AB (hl:=?_)
     | refine Av (hl:=?_)
     | refine BO (hl:=?_))
    apply Ab.nil
    refine Hq (k:=900) (ss:= [(0,.one (.ptr 901 0)),(1,Au (p:Nat)),(7,.one (.ptr 7 0)),(10,Au ((r+1:Nat):Int))]) (bs:= [(7,nmC (2+5*q+2+3) t'),(901,Dx l ps')]) (ns:=(nmC (2+5*q+2+3) t')) hD ?_ ?_ ?_
    ·exact ⟨by omega,by omega⟩
    ·exact BN
    repeat (refine FC rfl ?_;(first|refine Ai (hl:=?_)|refine Aq (hl:=?_)|refine Ay (hl:=?_));apply Ab.nil)
    refine FD ?_
    repeat (first|refine Aj ?_|refine Ae ?_|refine Ac rfl ?_|refine Ad rfl ?_|refine AW ?_|refine AX ?_|refine Ag ?_|refine Ah ?_)
    refine ⟨r,by omega,r,q+1,t',ks++ [t'],ps',rfl,by omega,hstep,by simp;omega,y3,?_⟩
    exact BN
   ·have c1:=Fx (k:= .i64) (decide_eq_false (show ¬(ks.length:Int)=((p+1:Nat):Int) by omega))
    obtain ⟨z1,z2,z3⟩:=EN l ps (m:=3) (by decide)
    have z3:=z3 hps
    have Z1:=EU (k:=901) (n:=ps) (m:=3) hb hl hps (by decide) (by decide)
    by_cases hB:0<(nxt l ps 3).1
    ·have e1:knC l p t ks ps=(true,(nxt l ps 3).2):=by unfold knC;rw [if_neg hA1,if_pos hB]
     have c2:=DY (k:= .i64) (decide_eq_true (show (nxt l ps 3).1>0 from hB))
     obtain ⟨P,hP⟩: ∃P,P=(nxt l ps 3).2:=⟨_,rfl⟩
     rw [←hP] at e1 z3 Z1
     generalize (nxt l ps 3).1=z at*
     clear hP
     obtain ⟨x1,x2,x3,y1,y2,y3,hT⟩:=hnew P z3 e1
     have X1:=EU (k:=901) (n:=P) (m:=3) hb hl z3 (by decide) (by decide)
     have Y1:=EU (k:=901) (n:=(nxt l P 3).2) (m:=2) hb hl x3 (by decide) (by decide)
     have w1:=BD (k:= .i64) (show (IntKind.i64).wrap (1+(nxt l P 3).1)=1+(nxt l P 3).1 from IntWalk.i64_in _ (by omega))
     have w2:=BD (k:= .i64) (show (IntKind.i64).wrap (1+(nxt l (nxt l P 3).2 2).1)=1+(nxt l (nxt l P 3).2 2).1 from IntWalk.i64_in _ (by omega))
     have F1:=Li (n:=1+(nxt l P 3).1) (d:=1+(nxt l (nxt l P 3).2 2).1) (by rw [decide_eq_true (show-9223372036854775808≤1+(nxt l P 3).1 by omega),decide_eq_true (show 1+(nxt l P 3).1<9223372036854775808 by omega),decide_eq_true (show 1≤1+(nxt l (nxt l P 3).2 2).1 by omega),decide_eq_true (show 1+(nxt l (nxt l P 3).2 2).1<9223372036854775808 by omega)];rfl)
     have A1:=ME (j:=2+5*q) (k:=2) (x:=t) (y:=((1+(nxt l P 3).1:Int):Rat)/((1+(nxt l (nxt l P 3).2 2).1:Int):Rat)) (by omega) (by omega)
     rw [hT] at hstep
     generalize t+((1+(nxt l P 3).1:Int):Rat)/((1+(nxt l (nxt l P 3).2 2).1:Int):Rat)=t' at*
     generalize (nxt l (nxt l P 3).2 2).2=ps' at*
     repeat (first
      | refine Aj ?_|refine Ae ?_|refine Ac rfl ?_|refine Ad rfl ?_
      | ((first|refine An (by kernel_rfl) ?_|refine Az (by kernel_rfl) (by kernel_rfl) (by kernel_rfl) ?_)
         repeat (first
          | refine BP (hl:=?_)
          | refine Aq (hl:=?_)
          | refine Ai (hl:=?_)
          | refine AA (hl:=?_)
          | refine Ay (hl:=?_)
          | refine AG (hl:=?_)
          | refine AJ (hl:=?_)
          | refine Ak (hl:=?_)
          | refine BA (hl:=?_)
          | refine BB (hl:=?_)
          | refine AR (hl:=?_)
          | refine AO (hl:=?_)
          | refine AN (hl:=?_)
          | refine AP (hl:=?_)
          | refine AB (hl:=?_)
          | refine Av (hl:=?_)
          | refine BO (hl:=?_)
          | refine Fi hA (hc:=Z1) (hl:=?_)
          | refine Fi hA (hc:=X1) (hl:=?_)
          | refine Fi hA (hc:=Y1) (hl:=?_)
          | refine Ap hA (hc:=F1) (hl:=?_)
          | refine Ap hA (hc:=A1) (hl:=?_))
         apply Ab.nil;try refine And.intro (by kernel_rfl) ?_)
      | refine Ag ?_|refine Ah ?_)
     try refine Aj ?_
     refine Dr 3 (by simp only [List.take_succ_cons,List.take_zero,List.drop_succ_cons,List.drop_zero];exact ⟨rfl,rfl⟩) (by kernel_rfl) ?_
     repeat (first
      | refine BP (hl:=?_)
      | refine Aq (hl:=?_)
      | refine Ai (hl:=?_)
      | refine AA (hl:=?_)
      | refine Ay (hl:=?_)
      | refine AG (hl:=?_)
      | refine AJ (hl:=?_)
      | refine Ak (hl:=?_)
      | refine BA (hl:=?_)
      | refine BB (hl:=?_)
      | refine AR (hl:=?_)
      | refine AO (hl:=?_)
      | refine AN (hl:=?_)
      | refine AP (hl:=?_)
      | refine AB (hl:=?_)
      | refine Av (hl:=?_)
      | refine BO (hl:=?_))
     apply Ab.nil
     refine Hq (k:=900) (ss:= [(0,.one (.ptr 901 0)),(1,Au (p:Nat)),(7,.one (.ptr 7 0)),(10,Au ((r+1:Nat):Int))]) (bs:= [(7,nmC (2+5*q+2+3) t'),(901,Dx l ps')]) (ns:=(nmC (2+5*q+2+3) t')) hD ?_ ?_ ?_
     ·exact ⟨by omega,by omega⟩
     ·exact BN
     repeat (refine FC rfl ?_;(first|refine Ai (hl:=?_)|refine Aq (hl:=?_)|refine Ay (hl:=?_));apply Ab.nil)
     refine FD ?_
     repeat (first|refine Aj ?_|refine Ae ?_|refine Ac rfl ?_|refine Ad rfl ?_|refine AW ?_|refine AX ?_|refine Ag ?_|refine Ah ?_)
     refine ⟨r,by omega,r,q+1,t',ks++ [t'],ps',rfl,by omega,hstep,by simp;omega,y3,?_⟩
     exact BN
    ·have c2:=DY (k:= .i64) (decide_eq_false (show ¬(nxt l ps 3).1>0 from hB))
     obtain ⟨ix,hix⟩: ∃ix:Nat,ix=ks.length-p:=⟨_,rfl⟩
     have hixl:ix<ks.length:=by omega
     have b5:=Cq (k:= .i64) (show (IntKind.i64).wrap ((ks.length:Int)-(p:Int))=(ix:Int) by rw [show ((ks.length:Int)-(p:Int))=(ix:Int) by omega];exact IntWalk.i64_in _ (by omega))
     have hx:=LC (l:=ks) (i:=ix) hixl
     have lt1:(0:Int)≤((ix:Nat):Int)∧((ix:Nat):Int)<(ks.length:Nat):=by omega
     have st1:((ix:Nat):Int).toNat*3+3≤(Al (nmD (5*inner+20)) ks).length:=by rw [A5 (n:=3) inferInstance,Int.toNat_natCast];omega
     have ld1:=Lg (f:=nmD (5*inner+20)) (n:=3) inferInstance hx
     have S1:=Ou (j:=2+5*q) (k:=5*inner+20) (x:=t) (y:=ks.getD ix 0)
     have e0:knC l p t ks ps=(decide (t=ks.getD ix 0),(nxt l ps 3).2):=by unfold knC;rw [if_neg hA1,if_neg hB,hix]
     obtain ⟨P,hP⟩: ∃P,P=(nxt l ps 3).2:=⟨_,rfl⟩
     rw [←hP] at e0 z3 Z1
     generalize (nxt l ps 3).1=z at*
     clear hP
     by_cases hsame:t=ks.getD ix 0
     ·have e1:=e0
      rw [decide_eq_true hsame] at e1 S1
      clear e0
      obtain ⟨x1,x2,x3,y1,y2,y3,hT⟩:=hnew P z3 e1
      have X1:=EU (k:=901) (n:=P) (m:=3) hb hl z3 (by decide) (by decide)
      have Y1:=EU (k:=901) (n:=(nxt l P 3).2) (m:=2) hb hl x3 (by decide) (by decide)
      have w1:=BD (k:= .i64) (show (IntKind.i64).wrap (1+(nxt l P 3).1)=1+(nxt l P 3).1 from IntWalk.i64_in _ (by omega))
      have w2:=BD (k:= .i64) (show (IntKind.i64).wrap (1+(nxt l (nxt l P 3).2 2).1)=1+(nxt l (nxt l P 3).2 2).1 from IntWalk.i64_in _ (by omega))
      have F1:=Li (n:=1+(nxt l P 3).1) (d:=1+(nxt l (nxt l P 3).2 2).1) (by rw [decide_eq_true (show-9223372036854775808≤1+(nxt l P 3).1 by omega),decide_eq_true (show 1+(nxt l P 3).1<9223372036854775808 by omega),decide_eq_true (show 1≤1+(nxt l (nxt l P 3).2 2).1 by omega),decide_eq_true (show 1+(nxt l (nxt l P 3).2 2).1<9223372036854775808 by omega)];rfl)
      have A1:=ME (j:=2+5*q) (k:=2) (x:=t) (y:=((1+(nxt l P 3).1:Int):Rat)/((1+(nxt l (nxt l P 3).2 2).1:Int):Rat)) (by omega) (by omega)
      rw [hT] at hstep
      generalize t+((1+(nxt l P 3).1:Int):Rat)/((1+(nxt l (nxt l P 3).2 2).1:Int):Rat)=t' at*
      generalize (nxt l (nxt l P 3).2 2).2=ps' at*
      repeat (first
       | refine Aj ?_|refine Ae ?_|refine Ac rfl ?_|refine Ad rfl ?_
       | ((first|refine An (by kernel_rfl) ?_|refine Az (by kernel_rfl) (by kernel_rfl) (by kernel_rfl) ?_)
          repeat (first
           | refine Io (k:=900) st1 ld1 (hl:=?_)
           | refine BP (hl:=?_)
           | refine Aq (hl:=?_)
           | refine Ai (hl:=?_)
           | refine AA (hl:=?_)
           | refine Ay (hl:=?_)
           | refine AG (hl:=?_)
           | refine AJ (hl:=?_)
           | refine Ak (hl:=?_)
           | refine BA (hl:=?_)
           | refine BB (hl:=?_)
           | refine AR (hl:=?_)
           | refine AO (hl:=?_)
           | refine AN (hl:=?_)
           | refine AP (hl:=?_)
           | refine AB (hl:=?_)
           | refine Av (hl:=?_)
           | refine BO (hl:=?_)
           | refine Fi hA (hc:=Z1) (hl:=?_)
           | refine Fi hA (hc:=X1) (hl:=?_)
           | refine G3 lt1 (hl:=?_)
           | refine Ap hA (hc:=S1) (hl:=?_)
           | refine Fi hA (hc:=Y1) (hl:=?_)
           | refine Ap hA (hc:=F1) (hl:=?_)
           | refine Ap hA (hc:=A1) (hl:=?_))
          apply Ab.nil;try refine And.intro (by kernel_rfl) ?_)
       | refine Ag ?_|refine Ah ?_)
      try refine Aj ?_
      refine Dr 3 (by simp only [List.take_succ_cons,List.take_zero,List.drop_succ_cons,List.drop_zero];exact ⟨rfl,rfl⟩) (by kernel_rfl) ?_
      repeat (first
       | refine BP (hl:=?_)
       | refine Aq (hl:=?_)
       | refine Ai (hl:=?_)
       | refine AA (hl:=?_)
       | refine Ay (hl:=?_)
       | refine AG (hl:=?_)
       | refine AJ (hl:=?_)
       | refine Ak (hl:=?_)
       | refine BA (hl:=?_)
       | refine BB (hl:=?_)
       | refine AR (hl:=?_)
       | refine AO (hl:=?_)
       | refine AN (hl:=?_)
       | refine AP (hl:=?_)
       | refine AB (hl:=?_)
       | refine Av (hl:=?_)
       | refine BO (hl:=?_))
      apply Ab.nil
      refine Hq (k:=900) (ss:= [(0,.one (.ptr 901 0)),(1,Au (p:Nat)),(7,.one (.ptr 7 0)),(10,Au ((r+1:Nat):Int))]) (bs:= [(7,nmC (2+5*q+2+3) t'),(901,Dx l ps')]) (ns:=(nmC (2+5*q+2+3) t')) hD ?_ ?_ ?_
      ·exact ⟨by omega,by omega⟩
      ·exact BN
      repeat (refine FC rfl ?_;(first|refine Ai (hl:=?_)|refine Aq (hl:=?_)|refine Ay (hl:=?_));apply Ab.nil)
      refine FD ?_
      repeat (first|refine Aj ?_|refine Ae ?_|refine Ac rfl ?_|refine Ad rfl ?_|refine AW ?_|refine AX ?_|refine Ag ?_|refine Ah ?_)
      refine ⟨r,by omega,r,q+1,t',ks++ [t'],ps',rfl,by omega,hstep,by simp;omega,y3,?_⟩
      exact BN
     ·rw [decide_eq_false hsame] at e0 S1
      have hT:knT l p t ks ps=(t,P):=by rw [PW (by rw [e0];simp),e0]
      rw [hT] at hstep
      repeat (first|refine Aj ?_|refine Ae ?_|refine Ac rfl ?_|refine Ad rfl ?_|refine AW ?_|refine AX ?_|refine Ag ?_|refine Ah ?_)
      try refine Aj ?_
      refine Dr 3 (by simp only [List.take_succ_cons,List.take_zero,List.drop_succ_cons,List.drop_zero];exact ⟨rfl,rfl⟩) (by kernel_rfl) ?_
      repeat (first
       | refine BP (hl:=?_)
       | refine Aq (hl:=?_)
       | refine Ai (hl:=?_)
       | refine AA (hl:=?_)
       | refine Ay (hl:=?_)
       | refine AG (hl:=?_)
       | refine AJ (hl:=?_)
       | refine Ak (hl:=?_)
       | refine BA (hl:=?_)
       | refine BB (hl:=?_)
       | refine AR (hl:=?_)
       | refine AO (hl:=?_)
       | refine AN (hl:=?_)
       | refine AP (hl:=?_)
       | refine AB (hl:=?_)
       | refine Av (hl:=?_)
       | refine BO (hl:=?_))
      apply Ab.nil
      refine Hq (k:=900) (ss:= [(0,.one (.ptr 901 0)),(1,Au (p:Nat)),(7,.one (.ptr 7 0)),(10,Au ((r+1:Nat):Int))]) (bs:= [(7,nmC (2+5*q) t),(901,Dx l P)]) (ns:=(nmC (2+5*q) t)) hD ?_ ?_ ?_
      ·exact ⟨by omega,by omega⟩
      ·exact BN
      repeat (refine FC rfl ?_;(first|refine Ai (hl:=?_)|refine Aq (hl:=?_)|refine Ay (hl:=?_));apply Ab.nil)
      refine FD ?_
      repeat (first|refine Aj ?_|refine Ae ?_|refine Ac rfl ?_|refine Ad rfl ?_|refine AW ?_|refine AX ?_|refine Ag ?_|refine Ah ?_)
      refine ⟨r,by omega,r,q+1,t,ks++ [t],P,rfl,by omega,hstep,by simp;omega,z3,?_⟩
      exact BN
 | zero=>
   have bi:=DY (k:= .i64) (decide_eq_false (show ¬(((0:Nat):Int))>0 by omega))
   obtain rfl:S=(t,ks,ps):=hS.symm
   have A1:=ME (j:=2+5*q) (k:=2) (x:=t) (y:=one) (by omega) (by omega)
   have hq:q≤inner:=by omega
   obtain ⟨t2,ht2⟩: ∃t2,t2=t+one:=⟨_,rfl⟩
   rw [←ht2] at A1⊢
   repeat (first|refine Aj ?_|refine Ae ?_|refine Ac rfl ?_|refine Ad rfl ?_|refine AW ?_|refine AX ?_|refine Ag ?_|refine Ah ?_)
   refine Cs (fun m σ=> ∃(i:Nat) (done:List Rat),m=p+1-i∧i≤p+1∧done=ks++List.replicate i t2∧Wk ⟨W0,base,D,80,[901],μ0⟩ σ [(1,Au (p:Nat)),(7,.one (.ptr 7 0)),(8,.one (.gl 900 done.length 3)),(11,Au (i:Nat))] [(900,Al (nmD (5*inner+20)) done),(7,nmC (2+5*q+2+3) t2),(901,Dx l ps)]) (n:=p+1) ⟨0,ks,by omega,by omega,by simp,?_⟩ ?_
   ·exact BN
   intro m σ hI
   obtain ⟨i,done,hm,hi0,hdone,hw⟩:=hI
   refine C7 hw ?_
   clear hw
   have hdl:done.length=ks.length+i:=by rw [hdone];simp
   by_cases hip:i<p+1
   ·have bi:=JH (k:= .i64) (decide_eq_true (show (i:Int)≤(p:Int) by omega))
    have hin:=BD (k:= .i64) (show (IntKind.i64).wrap ((i:Int)+1)=((i+1:Nat):Int) from IntWalk.i64_in _ (by omega))
    repeat (first|refine Aj ?_|refine Ae ?_|refine Ac rfl ?_|refine Ad rfl ?_|refine AW ?_|refine AX ?_|refine Ag ?_|refine Ah ?_)
    try refine Aj ?_
    refine Dr 3 (by simp only [List.take_succ_cons,List.take_zero,List.drop_succ_cons,List.drop_zero];exact ⟨rfl,rfl⟩) (by kernel_rfl) ?_
    repeat (first
     | refine BP (hl:=?_)
     | refine Aq (hl:=?_)
     | refine Ai (hl:=?_)
     | refine AA (hl:=?_)
     | refine Ay (hl:=?_)
     | refine AG (hl:=?_)
     | refine AJ (hl:=?_)
     | refine Ak (hl:=?_)
     | refine BA (hl:=?_)
     | refine BB (hl:=?_)
     | refine AR (hl:=?_)
     | refine AO (hl:=?_)
     | refine AN (hl:=?_)
     | refine AP (hl:=?_)
     | refine AB (hl:=?_)
     | refine Av (hl:=?_)
     | refine BO (hl:=?_))
    apply Ab.nil
    refine Hq (k:=900) (ss:= [(1,Au (p:Nat)),(7,.one (.ptr 7 0)),(11,Au (i:Nat))]) (bs:= [(7,nmC (2+5*q+2+3) t2),(901,Dx l ps)]) (ns:=(nmC (2+5*q+2+3) t2)) hD ?_ ?_ ?_
    ·exact ⟨by omega,by omega⟩
    ·exact BN
    repeat (refine FC rfl ?_;(first|refine Ai (hl:=?_)|refine Aq (hl:=?_)|refine Ay (hl:=?_));apply Ab.nil)
    refine FD ?_
    repeat (first|refine Aj ?_|refine Ae ?_|refine Ac rfl ?_|refine Ad rfl ?_|refine AW ?_|refine AX ?_|refine Ag ?_|refine Ah ?_)
    refine ⟨m-1,by omega,i+1,done++ [t2],by omega,by omega,?_,?_⟩
    ·rw [hdone,List.append_assoc,List.replicate_succ']
    ·exact BN
   ·have bi:=JH (k:= .i64) (decide_eq_false (show ¬(i:Int)≤(p:Int) by omega))
    obtain rfl:i=p+1:=by omega
    show Aw _ _ _ _ _
    repeat (first|refine Aj ?_|refine Ae ?_|refine Ac rfl ?_|refine Ad rfl ?_|refine AW ?_|refine AX ?_|refine Ag ?_|refine Ah ?_)
    refine Ek 900 hD (ss:= [(6,.one (BI (5*inner+20) done))]) (bs:= [(901,Dx l ps)]) ?_ ?_
    ·exact TE
    rw [hdone]
    refine AU (And.intro (Or.inr rfl) ?_)
    exact O7
theorem Vn {l:List Int} {n p inner k:Nat} (hb: ∀x∈l,-9223372036854775808≤x∧x<9223372036854775808) (hl:l.length≤1000000) (hn:n≤l.length) (hp:1≤p∧p≤100) (hi:inner≤1000):
  B9 Tryz.prog Amb 132 [.one (.ptr k 0),Au (p:Nat),Au (inner:Nat)] [(k,Dx l n,Dx l (knS l p inner n).2.2)] (.one (BI (5*inner+20) (knR l p inner n))):=
 (TW hb hl hn hp hi).at1 k rfl rfl
theorem U5 {l:List Int} {p inner n:Nat} :(knR l p inner n).length=2*p+2+(nxt l (nxt l n 4).2 (inner+1:Nat)).1.toNat:=by
 unfold knR knS
 rw [List.length_append,PX,List.length_replicate]
 simp
 omega
theorem U4 {l:List Int} {p inner n:Nat} :2*p+2≤(knR l p inner n).length∧(knR l p inner n).length≤2*p+2+inner:=by
 rw [U5]
 obtain ⟨x1,x2,_⟩:=EN l (nxt l n 4).2 (m:=((inner+1:Nat):Int)) (by omega)
 omega
def mdP (l:List Int):Nat:=1+(nxt l 0 5).1.toNat
def mdK (l:List Int):List Rat:=knR l (mdP l) 6 (nxt l 0 5).2
theorem OP (l:List Int):1≤mdP l∧mdP l≤5:=by
 obtain ⟨x1,x2,_⟩:=EN l 0 (m:=5) (by decide)
 unfold mdP
 omega
theorem WA {l:List Int} (hb: ∀x∈l,-9223372036854775808≤x∧x<9223372036854775808) (hl:l.length≤1000000):
  Ctr Tryz.prog Amb 63 [.one (.ints l)] (.tup [.one (BI 50 (mdK l)),Au (mdP l:Nat)]):=by
 obtain ⟨x1,x2,x3⟩:=EN l 0 (m:=5) (by decide)
 have hpb:=OP l
 have N1:=EU (k:=7) (n:=0) (m:=5) hb hl (Nat.zero_le _) (by decide) (by decide)
 have w1:=BD (k:= .i64) (show (IntKind.i64).wrap (1+(nxt l 0 5).1)=(mdP l:Int) by
  have e:(1+(nxt l 0 5).1)=(mdP l:Int):=by unfold mdP;omega
  rw [e];exact IntWalk.i64_in _ (by omega))
 have K1:=Vn (k:=7) (n:=(nxt l 0 5).2) (p:=mdP l) (inner:=6) hb hl (x3 (Nat.zero_le _)) (by omega) (by omega)
 unfold mdK
 refine AK Tryz.func63 rfl rfl rfl rfl rfl rfl ?_
 intro W0 base D μ0 hA hD
 have:=Wy l
 repeat (first|refine Aj ?_|refine Ae ?_|refine Ac rfl ?_|refine Ad rfl ?_|refine AW ?_|refine AX ?_|refine Ag ?_|refine Ah ?_)
 refine AU (And.intro (Or.inr rfl) ?_)
 exact P4
attribute [local go_sem] Oper.semAt_some
set_option linter.unusedVariables false
set_option linter.unusedSimpArgs false
set_option maxRecDepth 20000
set_option maxHeartbeats 4000000
structure KpC (D:Nat→Prop) (w w':World):Prop where
 os:w'.os=w.os
 tape:w'.tape=w.tape
 output:w'.output=w.output
 size:w.heap.size≤w'.heap.size
 block: ∀(k:Nat) (c:Array Value) (e:TypeId) (fz:Nat×Nat),w.heap[k]?=some (.cells c e fz)→ ¬D k→w'.heap[k]?=some (.cells c e fz)
 row:(∀(k:Nat) (c:Array Value) (e:TypeId) (fz:Nat×Nat),D k→w.heap[k]?=some (.cells c e fz)→ ∀(i:Nat) (n:Int),c[i]?≠some (.int .u32 n))→ ∀(k:Nat) (c:Array Value) (e:TypeId) (fz:Nat×Nat),D k→w'.heap[k]?=some (.cells c e fz)→ ∀(i:Nat) (n:Int),c[i]?≠some (.int .u32 n)
def NoU (D:Nat→Prop) (w:World):Prop:= ∀(k:Nat) (c:Array Value) (e:TypeId) (fz:Nat×Nat),D k→w.heap[k]?=some (.cells c e fz)→ ∀(i:Nat) (n:Int),c[i]?≠some (.int .u32 n)
theorem KpC.trans {D:Nat→Prop} {a b c:World} (h:KpC D a b) (k:KpC D b c):KpC D a c:=
 ⟨k.os.trans h.os,k.tape.trans h.tape,k.output.trans h.output,Nat.le_trans h.size k.size,fun g x e fz hg hd=>k.block g x e fz (h.block g x e fz hg hd) hd,fun hn=>k.row (h.row hn)⟩
theorem KpC.of_kd {D:Nat→Prop} {w w':World} (h:Kd (fun _=>False) w w') (hD: ∀k,D k→k<w.heap.size):KpC D w w':=
 ⟨h.os,h.tape,h.output,h.size,fun k c e fz hk _=>(h.block k (Array.getElem?_eq_some_iff.1 hk).1 id).trans hk,fun hn k c e fz hd hk=>hn k c e fz hd ((h.block k (hD k hd) id).symm.trans hk)⟩
theorem KpC.of_below {D:Nat→Prop} {w w':World} (h:Below w.heap.size w w') (hD: ∀k,D k→k<w.heap.size):KpC D w w':=
 ⟨h.os,h.tape,h.output,h.size,fun k c e fz hk _=>(h.block k (Array.getElem?_eq_some_iff.1 hk).1).trans hk,fun hn k c e fz hd hk=>hn k c e fz hd ((h.block k (hD k hd)).symm.trans hk)⟩
theorem KpC.put {D:Nat→Prop} (W:World) {l:Nat} {o:Obj} (o':Obj) (hl:W.heap[l]?=some o) (ho:o.isCells=false) (hD: ¬D l):KpC D W (W.putObj l o'):=by
 have hne: ∀k,k≠l→(W.putObj l o').heap[k]?=W.heap[k]?:=fun k hk=>World.putObj_heap_other hk
 refine ⟨rfl,rfl,rfl,by simp,fun k c e fz hk _=>?_,fun hn k c e fz hd hk=>?_⟩
 ·have:k≠l:=fun e=>by subst e;rw [hk] at hl;cases hl;cases ho
  rw [hne k this];exact hk
 ·have:k≠l:=fun e=>hD (e▸hd)
  rw [hne k this] at hk
  exact hn k c e fz hd hk
theorem KpC.fr {D:Nat→Prop} {W0 w w':World} (h:KpC D w w') (hF:Fr W0 w) (hn: ∀g,alive W0 g→ ¬D g):Fr W0 w':=fun g hg=>by
 obtain ⟨c,e,fz,h1,h2⟩:=hg
 have h3:=hF g ⟨c,e,fz,h1,h2⟩
 rw [h1] at h3⊢
 exact h.block g c e fz h3 (hn g ⟨c,e,fz,h1,h2⟩)
theorem KpC.kl {D:Nat→Prop} {w w':World} (h:KpC D w w') (hn:NoU D w):Kl w w':=⟨h.size,fun g c e fz hg hu=>by
 rw [hg]
 refine h.block g c e fz hg fun hd=>?_
 obtain ⟨i,n,hi⟩:=hu
 exact hn g c e fz hd hg i n hi⟩
theorem Kd.grown {w w':World} (h:Kd (fun _=>False) w w'):w.grownBy w' none:=⟨h.os,h.tape,h.output,h.size,fun k hk _=>h.block k hk id⟩
abbrev X0 (W0 B:World) (n:Nat):Ctx:=⟨W0,B,fun _=>False,n,[],fun _=>(0,0)⟩
theorem VM {W0 B w:World} {n:Nat} {ss:List (Nat×AV)} {a:Act} (hF:Fr W0 w) (hk:Kd (fun _=>False) B w) (hd:a.defers= []) (hs:a.tmps.size=n) (h: ∀p∈ss,cv W0 (fun _=>(0,0)) (fun _=>0) w (a.tmps.getD p.1 undef) p.2):CN (X0 W0 B n) (stL ss []) a w:=
 C0.cn ⟨fun _=>(0,0),hF,hk,hd,hs,fun t=>by
  show cv W0 (fun _=>(0,0)) (fun _=>0) w (a.tmps.getD t undef) (lk .junk ss t)
  rcases EQ (d:=AV.junk) (l:=ss) (k:=t) with h1|h1
  ·rw [h1];exact trivial
  ·exact h _ h1,fun k hk=>absurd rfl hk,fun k _ hk=>absurd rfl hk,fun k hk=>absurd rfl hk,fun k hk=>by cases hk⟩
theorem TZ {W0 B w:World} {n:Nat} {ss:List (Nat×AV)} {a:Act} (h:CN (X0 W0 B n) (stL ss []) a w): ∃W1,Ho (X0 W0 B n) W1∧Fr W1 w∧Kd (fun _=>False) B w∧a.defers= []∧a.tmps.size=n∧ ∀t,cv W1 (fun _=>(0,0)) (fun _=>0) w (a.tmps.getD t undef) (lk .junk ss t):=by
 obtain ⟨W1,hg,μ,h⟩:=h
 exact ⟨W1,hg,h.w0,h.kd,h.defers,h.size,fun t=>(h.slot t).mono (Kl.refl w) fun i hi=>absurd rfl hi⟩
theorem N7 {P:Program} {x y:Code} {Q:Exit→Act→World→Prop} {X:Ctx} {σ:St} {ss:List (Nat×AV)} {a:Act} {w:World} (hc:CN X σ a w) (h:Aw P X x σ (fun e σ'=>e= .normal∧Wk X σ' ss [])) (k: ∀a' w',CN X (stL ss []) a' w'→y.wp P Q a' w'):(Code.seq x y).wp P Q a w:=
 wp_seq (wp_mono (h a w hc) fun e a' w' ⟨σ',⟨he,hk⟩,hc'⟩=>by subst he;exact k a' w' (hk.cn hc'))
theorem Kn {P:Program} {x:Code} {Q:Exit→Act→World→Prop} {X:Ctx} {σ:St} {ss:List (Nat×AV)} {id:Exit} {a:Act} {w:World} (hc:CN X σ a w) (h:Aw P X x σ (fun e σ'=>e=id∧Wk X σ' ss [])) (k: ∀a' w',CN X (stL ss []) a' w'→Q id a' w'):x.wp P Q a w:=
 wp_mono (h a w hc) fun e a' w' ⟨σ',⟨he,hk⟩,hc'⟩=>by subst he;exact k a' w' (hk.cn hc')
theorem W7 {P:Program} {c:Code} {Q:Exit→Act→World→Prop} (I:Nat→Act→World→Prop) (round: ∀n a w,I n a w→c.wp P (Exit.then (fun a' w'=> ∃m,m<n∧I m a' w') Q) a w): ∀n a w,I n a w→(Code.loop c).wp P Q a w:=by
 intro n a w hI b k cs
 have key: ∀n a w,I n a w→ ∃e a' w',Q e a' w'∧Arrives P (lone (b.at a (.code c:: .inLoop c::k)) cs w) b k cs e a' w':=by
  intro n
  induction n using Nat.strongRecOn with
  | _ n ih=>
    intro a w hI
    obtain ⟨e,a₁,w₁,hq,harr⟩:=round n a w hI b (.inLoop c::k) cs
    cases e with
    | normal=>
      obtain ⟨m,hlt,hI₁⟩:=hq
      obtain ⟨e₂,a₂,w₂,hq₂,harr₂⟩:=ih m hlt a₁ w₁ hI₁
      exact ⟨e₂,a₂,w₂,hq₂,.of_steps (Steps.trans harr (.one step_inLoop)) harr₂⟩
    | exit id=>exact ⟨_,a₁,w₁,hq,.pass (x:= .inLoop c) rfl (fun _ _=> .inl (by simp)) harr⟩
    | goto l=>exact ⟨_,a₁,w₁,hq,.pass (x:= .inLoop c) rfl (fun _ _=> .inl (by simp)) harr⟩
    | ret=>exact ⟨_,a₁,w₁,hq,.pass (x:= .inLoop c) rfl (fun _ _=> .inl (by simp)) harr⟩
    | panic ch=>exact ⟨_,a₁,w₁,hq,.pass (x:= .inLoop c) rfl (fun _ _=> .inl (by simp)) harr⟩
    | outgrown=>exact ⟨_,a₁,w₁,hq,.pass (x:= .inLoop c) rfl (fun _ _=> .inl (by simp)) harr⟩
 obtain ⟨e,a',w',hq,harr⟩:=key n a w hI
 exact ⟨e,a',w',hq,.of_steps (.one step_loop) harr⟩
abbrev Rn (l:List Rat):= {x:Nat×Nat//x.1<x.2∧x.2≤l.length}
def IT (l:List Rat):(n i f:Nat)→i+n=l.length→f≤i→List (Rn l)
 | 0,_,_,_,_=> []
 | n+1,i,f,h,hf=>if i+1<l.length∧l.getD i 0=l.getD (i+1) 0 then IT l n (i+1) f (by omega) (by omega) else ⟨(f,i+1),by omega,by omega⟩::IT l n (i+1) (i+1) (by omega) (Xv _)
theorem PE {l:List Rat} {n i f:Nat} {h:i+(n+1)=l.length} {hf:f≤i} (hq:i+1<l.length∧l.getD i 0=l.getD (i+1) 0):IT l (n+1) i f h hf=IT l n (i+1) f (by omega) (by omega):=if_pos hq
theorem PD {l:List Rat} {n i f:Nat} {h:i+(n+1)=l.length} {hf:f≤i} (hq: ¬(i+1<l.length∧l.getD i 0=l.getD (i+1) 0)):IT l (n+1) i f h hf=⟨(f,i+1),by omega,by omega⟩::IT l n (i+1) (i+1) (by omega) (Xv _):=if_neg hq
def D3 (l:List Rat):List (Rn l):=IT l l.length 0 0 (by omega) (Xv _)
abbrev Wv (l:List Rat) (x:Rn l):Array Value:= #[.int .i64 (x.1.1:Nat),.int .i64 (x.1.2:Nat)]
theorem Sm (n:Nat) (a:Option Addr) (len cap:Nat) (w:World):CallsIn Fence.wide n Tryz.prog 133 #[.slice a len cap] w fun e w'=>e= .returned (.func (.func 199) #[] #[.pointer (some ⟨w.heap.size,0,none⟩)])∧w'=w.alloc (.cells #[.slice a len cap] 25):=by
 refine callsIn_of_wp Tryz.func133 rfl trivial ?_ rfl
 simp only [Tryz.ntmps133,List.size_toArray,List.length_cons,List.length_nil,Nat.reduceAdd,Nat.reduceSub,Array.replicate_succ,Array.replicate_zero,List.push_toArray,List.append_toArray,List.nil_append,List.cons_append]
 gi_wp2
 go_ret
 exact ⟨rfl,rfl⟩
theorem Tf {j k:Nat} {x y:Rat} {b:Bool} (h:decide (x=y)=b):Ctr Tryz.prog Amb 135 [nm j x,nm k y] (.one (.v (.bool b))):=h▸T9
theorem AI {α:Type} {l:List α} {n:Nat} (h:l.length=n+1): ∃x m,l=x::m∧m.length=n:=by
 cases l with
 | nil=>cases h
 | cons x m=>exact ⟨x,m,rfl,by simpa using h⟩
theorem W8 (t:Array Value) (h:t.size=36): ∃x0 x1 x2 x3 x4 x5 x6 x7 x8 x9 x10 x11 x12 x13 x14 x15 x16 x17 x18 x19 x20 x21 x22 x23 x24 x25 x26 x27 x28 x29 x30 x31 x32 x33 x34 x35:Value,t= #[x0,x1,x2,x3,x4,x5,x6,x7,x8,x9,x10,x11,x12,x13,x14,x15,x16,x17,x18,x19,x20,x21,x22,x23,x24,x25,x26,x27,x28,x29,x30,x31,x32,x33,x34,x35]:=by
 obtain ⟨l⟩:=t
 have h0:l.length=36:=h
 clear h
 obtain ⟨x0,l0,e0,h1⟩:=AI h0
 obtain ⟨x1,l1,e1,h2⟩:=AI h1
 obtain ⟨x2,l2,e2,h3⟩:=AI h2
 obtain ⟨x3,l3,e3,h4⟩:=AI h3
 obtain ⟨x4,l4,e4,h5⟩:=AI h4
 obtain ⟨x5,l5,e5,h6⟩:=AI h5
 obtain ⟨x6,l6,e6,h7⟩:=AI h6
 obtain ⟨x7,l7,e7,h8⟩:=AI h7
 obtain ⟨x8,l8,e8,h9⟩:=AI h8
 obtain ⟨x9,l9,e9,h10⟩:=AI h9
 obtain ⟨x10,l10,e10,h11⟩:=AI h10
 obtain ⟨x11,l11,e11,h12⟩:=AI h11
 obtain ⟨x12,l12,e12,h13⟩:=AI h12
 obtain ⟨x13,l13,e13,h14⟩:=AI h13
 obtain ⟨x14,l14,e14,h15⟩:=AI h14
 obtain ⟨x15,l15,e15,h16⟩:=AI h15
 obtain ⟨x16,l16,e16,h17⟩:=AI h16
 obtain ⟨x17,l17,e17,h18⟩:=AI h17
 obtain ⟨x18,l18,e18,h19⟩:=AI h18
 obtain ⟨x19,l19,e19,h20⟩:=AI h19
 obtain ⟨x20,l20,e20,h21⟩:=AI h20
 obtain ⟨x21,l21,e21,h22⟩:=AI h21
 obtain ⟨x22,l22,e22,h23⟩:=AI h22
 obtain ⟨x23,l23,e23,h24⟩:=AI h23
 obtain ⟨x24,l24,e24,h25⟩:=AI h24
 obtain ⟨x25,l25,e25,h26⟩:=AI h25
 obtain ⟨x26,l26,e26,h27⟩:=AI h26
 obtain ⟨x27,l27,e27,h28⟩:=AI h27
 obtain ⟨x28,l28,e28,h29⟩:=AI h28
 obtain ⟨x29,l29,e29,h30⟩:=AI h29
 obtain ⟨x30,l30,e30,h31⟩:=AI h30
 obtain ⟨x31,l31,e31,h32⟩:=AI h31
 obtain ⟨x32,l32,e32,h33⟩:=AI h32
 obtain ⟨x33,l33,e33,h34⟩:=AI h33
 obtain ⟨x34,l34,e34,h35⟩:=AI h34
 obtain ⟨x35,l35,e35,h36⟩:=AI h35
 have e36:=List.length_eq_zero_iff.1 h36
 subst e36 e35 e34 e33 e32 e31 e30 e29 e28 e27 e26 e25 e24 e23 e22 e21 e20 e19 e18 e17 e16 e15 e14 e13 e12 e11 e10 e9 e8 e7 e6 e5 e4 e3 e2 e1 e0
 exact ⟨x0,x1,x2,x3,x4,x5,x6,x7,x8,x9,x10,x11,x12,x13,x14,x15,x16,x17,x18,x19,x20,x21,x22,x23,x24,x25,x26,x27,x28,x29,x30,x31,x32,x33,x34,x35,rfl⟩
abbrev DI (j:Nat) (l:List Rat):C:= .fp [.lst 3 l.length (l.flatMap (nmD j))]
theorem RP {l:List Rat} {j:Nat} (hl:l.length≤1000000) {D:Nat→Prop} {W0 W:World} (hA:Amb W0) (hal: ∀g,alive W0 g→ ¬D g) (hDW: ∀g,D g→g<W.heap.size) (hNU:NoU D W) (hF:Fr W0 W) {pv:Value} (hpv:cv W0 (fun _=>(0,0)) (fun _=>0) W pv (.one (DI j l)))
  {n l':Nat} {J Jx:List (Rn l)→World→Prop} (hJ:AbidesFrom W.heap.size J)
  (hY: ∀pre x W1,J pre W1→pre.length<(D3 l).length→YieldAt Fence.wide n Tryz.prog l' (Wv l x) W1 fun e W'=>(e= .returned (.bool true)∧J (pre++ [x]) W'∧KpC D W1 W')∨(e= .returned (.bool false)∧Jx (pre++ [x]) W')) (h0:J [] W):
  Calls Tryz.prog 199 #[.func (.yield l') #[] #[],pv] W fun e W'=>(∃v,e= .returned v)∧((∃xs,xs=D3 l∧J xs W')∨(∃pre,pre<+:D3 l∧Jx pre W')):=by
 refine calls_of_wp Tryz.func199 rfl ?_
 obtain ⟨yv,hyv⟩: ∃yv:Value,yv= .func (.yield l') #[] #[]:=⟨_,rfl⟩
 rw [←hyv]
 simp only [Tryz.ntmps199,List.size_toArray,List.length_cons,List.length_nil,Nat.reduceAdd,Nat.reduceSub,Array.replicate_succ,Array.replicate_zero,List.push_toArray,List.append_toArray,List.nil_append,List.cons_append]
 refine N7 (X:=X0 W0 W 36) (σ:=stL [(0,.one (.v yv)),(1,.one (DI j l))] []) (ss:= [(0,.one (.v yv)),(1,.one (DI j l)),(3,Au 0)]) (VM hF (Kd.refl _ _) rfl rfl (List.forall_mem_cons.2 ⟨rfl,List.forall_mem_cons.2 ⟨hpv,Ao⟩⟩)) ?_ ?_
 ·repeat (first|refine Aj ?_|refine Ae ?_|refine Ac rfl ?_|refine Ad rfl ?_|refine AW ?_|refine AX ?_|refine Ag ?_|refine Ah ?_)
  try refine And.intro rfl ?_
  exact BN
 intro a1 w1 hc1
 refine N7 (ss:= [(0,.one (.v yv)),(1,.one (DI j l)),(3,Au 0),(6,Au (l.length:Nat)),(7,Au 0)]) hc1 ?_ ?_
 ·repeat (first|refine Aj ?_|refine Ae ?_|refine Ac rfl ?_|refine Ad rfl ?_|refine AW ?_|refine AX ?_|refine Ag ?_|refine Ah ?_)
  try refine And.intro rfl ?_
  exact BN
 intro a2 w2 hc2
 clear hc1
 refine wp_block ?_
 refine W7 (fun m a w=> ∃(i f:Nat) (hi:i+m=l.length) (hf:f≤i) (pre:List (Rn l)) (V B:World),Amb V∧(∀g,alive V g→ ¬D g)∧W.heap.size≤B.heap.size∧NoU D B∧J pre B∧pre++IT l m i f hi hf=D3 l∧CN (X0 V B 36) (stL [(0,.one (.v yv)),(1,.one (DI j l)),(3,Au (f:Nat)),(6,Au (l.length:Nat)),(7,Au (i:Nat))] []) a w) ?_ l.length a2 w2 ⟨0,0,by omega,by omega,[],W0,W,hA,hal,Xv _,hNU,h0,rfl,hc2⟩
 clear hc2 h0 hpv hF hA hal hNU
 intro m a w ⟨i,f,hi,hf,pre,V,B,hA,hal,hsz,hNU,hJp,hpre,hc⟩
 cases m with
 | zero=>
   have bi:=BL (k:= .i64) (decide_eq_false (show ¬(i:Int)<((l.length:Nat):Int) by omega))
   refine N7 (ss:= [(8,.one (.v (.bool false)))]) hc ?_ ?_
   ·repeat (first|refine Aj ?_|refine Ae ?_|refine Ac rfl ?_|refine Ad rfl ?_|refine AW ?_|refine AX ?_|refine Ag ?_|refine Ah ?_)
    try refine And.intro rfl ?_
    exact BN
   intro a3 w3 hc3
   refine wp_seq (Kn (ss:= []) (id:= .exit 0) hc3 ?_ ?_)
   ·repeat (first|refine Aj ?_|refine Ae ?_|refine Ac rfl ?_|refine Ad rfl ?_|refine AW ?_|refine AX ?_|refine Ag ?_|refine Ah ?_)
    try refine And.intro rfl ?_
    exact BN
   intro a4 w4 hc4
   obtain ⟨W1,hg,hF1,hkd,hdf,hs4,-⟩:=TZ hc4
   simp only [Exit.then,Exit.inBlock,if_true]
   refine bodyPost_end (results_none (fn:=Tryz.f199) rfl _ _ _) hdf ?_
   have hp:pre=D3 l:=by rw [←hpre];exact (List.append_nil _).symm
   exact ⟨⟨_,rfl⟩,.inl ⟨pre,hp,hJ pre B w4 none hJp hkd.grown (fun r e=>by cases e)⟩⟩
 | succ m=>
   have bi:=BL (k:= .i64) (decide_eq_true (show (i:Int)<((l.length:Nat):Int) by omega))
   have hin:=BD (k:= .i64) (show (IntKind.i64).wrap ((i:Int)+1)=((i+1:Nat):Int) from IntWalk.i64_in _ (by omega))
   refine N7 (ss:= [(0,.one (.v yv)),(1,.one (DI j l)),(3,Au (f:Nat)),(6,Au (l.length:Nat)),(7,Au (i:Nat)),(8,.one (.v (.bool true)))]) hc ?_ ?_
   ·repeat (first|refine Aj ?_|refine Ae ?_|refine Ac rfl ?_|refine Ad rfl ?_|refine AW ?_|refine AX ?_|refine Ag ?_|refine Ah ?_)
    try refine And.intro rfl ?_
    exact BN
   intro a3 w3 hc3
   refine N7 (ss:= [(0,.one (.v yv)),(1,.one (DI j l)),(3,Au (f:Nat)),(6,Au (l.length:Nat)),(7,Au (i:Nat))]) hc3 ?_ ?_
   ·repeat (first|refine Aj ?_|refine Ae ?_|refine Ac rfl ?_|refine Ad rfl ?_|refine AW ?_|refine AX ?_|refine Ag ?_|refine Ah ?_)
    try refine And.intro rfl ?_
    exact BN
   intro a4 w4 hc4
   refine wp_seq (wp_block ?_)
   refine N7 (ss:= [(0,.one (.v yv)),(1,.one (DI j l)),(3,Au (f:Nat)),(4,Au (i:Nat)),(6,Au (l.length:Nat)),(7,Au (i:Nat))]) hc4 ?_ ?_
   ·repeat (first|refine Aj ?_|refine Ae ?_|refine Ac rfl ?_|refine Ad rfl ?_|refine AW ?_|refine AX ?_|refine Ag ?_|refine Ah ?_)
    try refine And.intro rfl ?_
    exact BN
   intro a5 w5 hc5
   clear hc hc3 hc4
   obtain ⟨x,hx,hx'⟩:=CX (l:=l) (i:=i) (by omega)
   by_cases hq:i+1<l.length∧l.getD i 0=l.getD (i+1) 0
   ·obtain ⟨y,hy,hy'⟩:=CX (l:=l) (i:=i+1) hq.1
    have bj:=BL (k:= .i64) (decide_eq_true (show ((i+1:Nat):Int)<((l.length:Nat):Int) by omega))
    have hxy:x=y:=by
     have h1:=hq.2
     rw [List.getD_eq_getElem?_getD,List.getD_eq_getElem?_getD,hx',hy'] at h1
     exact h1
    have C1:=Tf (j:=j) (k:=j) (x:=x) (y:=y) (decide_eq_true hxy)
    have hpre':pre++IT l m (i+1) f (by omega) (by omega)=D3 l:=by rw [←hpre,PE hq]
    refine wp_seq (Kn (ss:= [(0,.one (.v yv)),(1,.one (DI j l)),(3,Au (f:Nat)),(6,Au (l.length:Nat)),(7,Au (i:Nat))]) (id:= .exit 1) hc5 ?_ ?_)
    ·repeat (first|refine Aj ?_|refine Ae ?_|refine Ac rfl ?_|refine Ad rfl ?_|refine AW ?_|refine AX ?_|refine Ag ?_|refine Ah ?_)
     try refine And.intro rfl ?_
     exact BN
    intro a6 w6 hc6
    show Code.wp Tryz.prog _ _ a6 w6
    refine Kn (ss:= [(0,.one (.v yv)),(1,.one (DI j l)),(3,Au (f:Nat)),(6,Au (l.length:Nat)),(7,Au ((i+1:Nat):Nat))]) (id:= .normal) hc6 ?_ ?_
    ·repeat (first|refine Aj ?_|refine Ae ?_|refine Ac rfl ?_|refine Ad rfl ?_|refine AW ?_|refine AX ?_|refine Ag ?_|refine Ah ?_)
     try refine And.intro rfl ?_
     exact BN
    intro a7 w7 hc7
    exact ⟨m,Nat.lt_succ_self m,i+1,f,by omega,by omega,pre,V,B,hA,hal,hsz,hNU,hJp,hpre',hc7⟩
   ·have hpre':pre++ [⟨(f,i+1),by omega,by omega⟩]++IT l m (i+1) (i+1) (by omega) (Xv _)=D3 l:=by rw [←hpre,List.append_assoc,PD hq];rfl
    refine N7 (ss:= [(0,.one (.v yv)),(1,.one (DI j l)),(3,Au (f:Nat)),(4,Au (i:Nat)),(6,Au (l.length:Nat)),(7,Au (i:Nat))]) hc5 ?_ ?_
    ·by_cases hj:i+1<l.length
     ·obtain ⟨y,hy,hy'⟩:=CX (l:=l) (i:=i+1) hj
      have bj:=BL (k:= .i64) (decide_eq_true (show ((i+1:Nat):Int)<((l.length:Nat):Int) by omega))
      have hxy:x≠y:=fun h=>hq ⟨hj,by rw [List.getD_eq_getElem?_getD,List.getD_eq_getElem?_getD,hx',hy',h]⟩
      have C1:=Tf (j:=j) (k:=j) (x:=x) (y:=y) (decide_eq_false hxy)
      repeat (first|refine Aj ?_|refine Ae ?_|refine Ac rfl ?_|refine Ad rfl ?_|refine AW ?_|refine AX ?_|refine Ag ?_|refine Ah ?_)
      try refine And.intro rfl ?_
      exact BN
     ·have bj:=BL (k:= .i64) (decide_eq_false (show ¬((i+1:Nat):Int)<((l.length:Nat):Int) by omega))
      repeat (first|refine Aj ?_|refine Ae ?_|refine Ac rfl ?_|refine Ad rfl ?_|refine AW ?_|refine AX ?_|refine Ag ?_|refine Ah ?_)
      try refine And.intro rfl ?_
      exact BN
    intro a6 w6 hc6
    obtain ⟨W1,hg,hF1,hkd,hdf,hs6,hsl⟩:=TZ hc6
    have hA1:Amb W1:=MonoA.up hA hg.ext
    have hDB: ∀g,D g→g<B.heap.size:=fun g h=>Nat.lt_of_lt_of_le (hDW g h) hsz
    have hal1: ∀g,alive W1 g→ ¬D g:=fun g h hd=>by
     rcases hg.new g h with h1|h1
     ·exact hal g h1 hd
     ·exact absurd (hDB g hd) (Nat.not_lt.2 h1)
    have hJ6:J pre w6:=hJ pre B w6 none hJp hkd.grown (fun r e=>by cases e)
    have hk6:KpC D B w6:= .of_kd hkd hDB
    have hNU6:NoU D w6:=hk6.row hNU
    have hlen:pre.length<(D3 l).length:=by rw [←hpre'];simp
    obtain ⟨fn,tmps,assign,body,hy,hR⟩:=hY pre ⟨(f,i+1),by omega,by omega⟩ w6 hJ6 hlen
    dsimp only [Wv] at hy
    obtain ⟨tm,df⟩:=a6
    dsimp only at hdf hs6 hsl
    subst hdf
    have v0:tm.getD 0 undef=yv:=hsl 0
    have v1:=hsl 1
    have v3:tm.getD 3 undef= .int .i64 (f:Nat):=hsl 3
    have v4:tm.getD 4 undef= .int .i64 (i:Nat):=hsl 4
    have v6:tm.getD 6 undef= .int .i64 (l.length:Nat):=hsl 6
    have v7:tm.getD 7 undef= .int .i64 (i:Nat):=hsl 7
    clear hsl hc6 hc5
    obtain ⟨x0,x1,x2,x3,x4,x5,x6,x7,x8,x9,x10,x11,x12,x13,x14,x15,x16,x17,x18,x19,x20,x21,x22,x23,x24,x25,x26,x27,x28,x29,x30,x31,x32,x33,x34,x35,rfl⟩:=W8 tm hs6
    replace v0:x0=yv:=v0
    replace v3:x3= .int .i64 (f:Nat):=v3
    replace v4:x4= .int .i64 (i:Nat):=v4
    replace v6:x6= .int .i64 (l.length:Nat):=v6
    replace v7:x7= .int .i64 (i:Nat):=v7
    subst v0 v3 v4 v6 v7
    replace v1:cv W1 (fun _=>(0,0)) (fun _=>0) w6 x1 (.one (DI j l)):=v1
    have fin: ∀(b:Bool) (W3:World) (t:Array Value),t.size=36→t.getD 0 undef=x0→t.getD 1 undef=x1→t.getD 3 undef= .int .i64 (f:Nat)→t.getD 4 undef= .int .i64 (i:Nat)→t.getD 6 undef= .int .i64 (l.length:Nat)→t.getD 7 undef= .int .i64 (i:Nat)→t.getD 32 undef= .bool (!b)→KpC D w6 W3→
      CN (X0 W1 W3 36) (stL [(0,.one (.v x0)),(1,.one (DI j l)),(3,Au (f:Nat)),(4,Au (i:Nat)),(6,Au (l.length:Nat)),(7,Au (i:Nat)),(32,.one (.v (.bool (!b))))] []) { tmps:=t,defers:= [] } W3:=fun b W3 t h36 e0 e1 e3 e4 e6 e7 e32 hk=>
     VM (hk.fr hF1 hal1) (Kd.refl _ _) rfl h36 (by
      have m1:cv W1 (fun _=>(0,0)) (fun _=>0) W3 (t.getD 1 undef) (.one (DI j l)):=by rw [e1];exact v1.mono (hk.kl hNU6) fun i hi=>absurd rfl hi
      exact List.forall_mem_cons.2 ⟨e0,List.forall_mem_cons.2 ⟨m1,List.forall_mem_cons.2 ⟨e3,List.forall_mem_cons.2 ⟨e4,List.forall_mem_cons.2 ⟨e6,List.forall_mem_cons.2 ⟨e7,List.forall_mem_cons.2 ⟨e32,Ao⟩⟩⟩⟩⟩⟩⟩)
    obtain ⟨Q5,hQ5⟩: ∃Q5:Exit→Act→World→Prop,Q5=fun e a' W3=>e= .normal∧((CN (X0 W1 W3 36) (stL [(0,.one (.v x0)),(1,.one (DI j l)),(3,Au (f:Nat)),(4,Au (i:Nat)),(6,Au (l.length:Nat)),(7,Au (i:Nat)),(32,.one (.v (.bool (!true))))] []) a' W3∧J (pre++ [⟨(f,i+1),by omega,by omega⟩]) W3∧KpC D w6 W3)∨(a'.defers= []∧a'.eval (.tmp 32)= .bool true∧Jx (pre++ [⟨(f,i+1),by omega,by omega⟩]) W3)):=⟨_,rfl⟩
    refine wp_seq (wp_seq (wp_mono (Q:=Q5) ((wpIn_wide (n:=n+1)).1 ?_) ?_))
    ·clear hY hJ6 hk6 hJp hg hal hal1 hA hA1 hpre hpre' hkd
     replace hy:(Instr.yield l' #[.int .i64 (f:Nat),.int .i64 ((i:Int)+1)]).run Tryz.prog w6= .ok (.round l' fn tmps assign body) w6:=hy
     gi_wp2
     refine hR.mono ?_
     rintro e W3 (⟨rfl,hJ3,hk3⟩|⟨rfl,hJx3⟩)
     ·gi_wp2
      rw [hQ5]
      exact ⟨rfl,.inl ⟨fin true W3 _ rfl hyv.symm rfl rfl rfl rfl rfl rfl hk3,hJ3,hk3⟩⟩
     ·gi_wp2
      rw [hQ5]
      exact ⟨rfl,.inr ⟨rfl,rfl,hJx3⟩⟩
    ·rintro e a' W3 hq
     rw [hQ5] at hq
     obtain ⟨rfl,hb⟩:=hq
     show Code.wp Tryz.prog _ _ a' W3
     rcases hb with ⟨hc7,hJ3,hk3⟩|⟨hd7,he7,hJx3⟩
     ·refine Kn (ss:= [(0,.one (.v x0)),(1,.one (DI j l)),(3,Au (f:Nat)),(4,Au (i:Nat)),(6,Au (l.length:Nat)),(7,Au (i:Nat))]) (id:= .normal) hc7 ?_ ?_
      ·repeat (first|refine Aj ?_|refine Ae ?_|refine Ac rfl ?_|refine Ad rfl ?_|refine AW ?_|refine AX ?_|refine Ag ?_|refine Ah ?_)
       try refine And.intro rfl ?_
       exact BN
      intro a8 w8 hc8
      show Code.wp Tryz.prog _ _ a8 w8
      refine Kn (ss:= [(0,.one (.v x0)),(1,.one (DI j l)),(3,Au ((i+1:Nat):Nat)),(4,Au (i:Nat)),(6,Au (l.length:Nat)),(7,Au (i:Nat))]) (id:= .normal) hc8 ?_ ?_
      ·repeat (first|refine Aj ?_|refine Ae ?_|refine Ac rfl ?_|refine Ad rfl ?_|refine AW ?_|refine AX ?_|refine Ag ?_|refine Ah ?_)
       try refine And.intro rfl ?_
       exact BN
      intro a9 w9 hc9
      show Code.wp Tryz.prog _ _ a9 w9
      refine Kn (ss:= [(0,.one (.v x0)),(1,.one (DI j l)),(3,Au ((i+1:Nat):Nat)),(6,Au (l.length:Nat)),(7,Au ((i+1:Nat):Nat))]) (id:= .normal) hc9 ?_ ?_
      ·repeat (first|refine Aj ?_|refine Ae ?_|refine Ac rfl ?_|refine Ad rfl ?_|refine AW ?_|refine AX ?_|refine Ag ?_|refine Ah ?_)
       try refine And.intro rfl ?_
       exact BN
      intro a10 w10 hc10
      exact ⟨m,Nat.lt_succ_self m,i+1,i+1,by omega,Xv _,_,W1,W3,hA1,hal1,Nat.le_trans hsz (hk6.trans hk3).size,hk3.row hNU6,hJ3,hpre',hc10⟩
     ·refine wp_cond_true he7 (wp_ret ?_)
      simp only [Exit.then,Exit.inBlock,if_true]
      refine bodyPost_ret (results_none (fn:=Tryz.f199) rfl _ _ _) hd7 ?_
      exact ⟨⟨_,rfl⟩,.inr ⟨_,⟨_,hpre'⟩,hJx3⟩⟩
end Go.Proofs.YtfineedhebhpaaaGreatDoor
