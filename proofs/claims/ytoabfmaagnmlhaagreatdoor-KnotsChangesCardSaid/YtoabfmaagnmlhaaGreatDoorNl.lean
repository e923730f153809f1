/-
  Sorted lists; knots.Check as far as runs leave it open.
-/
import Derived.Test.YtoabfmaagnmlhaaGreatDoorHn
namespace Go.Proofs.YtoabfmaagnmlhaaGreatDoor
open Go.RowKit
set_option linter.unusedVariables false
set_option linter.unusedSimpArgs false
set_option maxRecDepth 20000
set_option maxHeartbeats 4000000
def RN (l:List Rat):Nat→Bool
 | 0=>true
 | i+1=>if Dt (l.getD (i+1) 0) (l.getD i 0)<0 then false else RN l i
def srt (l:List Rat):Bool:=RN l (l.length-1)
theorem LF {l:List Rat} {i:Nat} {x:Rat} (h:l[i]?=some x):l.getD i 0=x:=by
 rw [List.getD_eq_getElem?_getD,h];rfl
theorem PW {j:Nat} {l:List Rat} (hj:j≤100000) (hl:l.length≤1000000) (hne:0<l.length):
  Ctr Tryz.prog Amb 57 [.one (BF j l),.one (.fn 58 [])] (.one (.v (.bool (srt l)))):=by
 have b0:=Cq (k:= .i64) (show (IntKind.i64).wrap ((l.length:Int)-1)=((l.length-1:Nat):Int) by rw [show ((l.length:Int)-1)=((l.length-1:Nat):Int) by omega];exact IntWalk.i64_in _ (by omega))
 obtain ⟨S,hS⟩: ∃S,S=srt l:=⟨_,rfl⟩
 rw [←hS]
 refine AW Tryz.func57 rfl rfl rfl rfl rfl rfl ?_
 intro W0 base D μ0 hA hD
 repeat (first
  | refine Aq ?_|refine Ah ?_|refine Af rfl ?_|refine Ag rfl ?_
  | ((first|refine Ae (by kernel_rfl) ?_|refine Ak (by kernel_rfl) (by kernel_rfl) (by kernel_rfl) ?_)
     repeat (first
      | refine Al (hl:=?_)
      | refine Ad (hl:=?_)
      | refine As (hl:=?_)
      | refine Ax (hl:=?_)
      | refine Ab (hl:=?_)
      | refine AC (hl:=?_)
      | refine AB (hl:=?_)
      | refine AD (hl:=?_)
      | refine Au (hl:=?_)
      | refine Ao (hl:=?_))
     apply Ai.nil;try refine And.intro (by kernel_rfl) ?_)
  | refine Am ?_|refine An ?_)
 refine Cr (fun c σ=> ∃i:Nat,c=i∧i<l.length∧RN l i=S∧Wk ⟨W0,base,D,25,[],μ0⟩ σ [(0,.one (BF j l)),(1,.one (.fn 58 [])),(5,AK (i:Nat))] []) (n:=l.length-1) ⟨l.length-1,rfl,by omega,hS.symm,?_⟩ ?_
 ·refine AT ?_ ?_ rfl
  ·repeat (first|exact Ac|(refine List.forall_mem_cons.2 ⟨?_,?_⟩;focus (first|exact Ent.of_eq rfl|(refine Ent.one' rfl ?_;(first|exact Aa.ratsLe (by omega)|exact Aa.ratsNil|exact Aa.glNil|(refine Aa.int ?_;omega)|(refine Aa.glLen ?_;first|omega|simp)|exact Aa.of_eq rfl|(refine Aa.q rfl ?_;omega)|exact Z0 _|exact Z2 _|exact Aa.z0 (k:=0)|exact Aa.z1 (k:=0)|exact Aa.z2 (k:=0)|exact Aa.z0|exact Aa.z1|exact Aa.z2))|(refine Ent.agg' rfl ?_;(repeat (first|exact EntL.nil' rfl|(refine EntL.cons' rfl ?_ ?_;focus (first|exact Aa.ratsLe (by omega)|exact Aa.ratsNil|exact Aa.glNil|(refine Aa.int ?_;omega)|(refine Aa.glLen ?_;first|omega|simp)|exact Aa.of_eq rfl|(refine Aa.q rfl ?_;omega)|exact Z0 _|exact Z2 _|exact Aa.z0 (k:=0)|exact Aa.z1 (k:=0)|exact Aa.z2 (k:=0)|exact Aa.z0|exact Aa.z1|exact Aa.z2))));done))))
  ·repeat (first|exact Ac|(refine List.forall_mem_cons.2 ⟨?_,?_⟩;focus (first|exact Ap inferInstance|(refine AG rfl ?_ rfl;focus ((repeat (first|exact EntL.nil' rfl|(refine EntL.cons' rfl ?_ ?_;focus (first|exact Aa.ratsLe (by omega)|exact Aa.ratsNil|exact Aa.glNil|(refine Aa.int ?_;omega)|(refine Aa.glLen ?_;first|omega|simp)|exact Aa.of_eq rfl|(refine Aa.q rfl ?_;omega)|exact Z0 _|exact Z2 _|exact Aa.z0 (k:=0)|exact Aa.z1 (k:=0)|exact Aa.z2 (k:=0)|exact Aa.z0|exact Aa.z1|exact Aa.z2))));done)))))
 clear b0 hS
 intro c σ hI
 obtain ⟨i,hc,hi0,hS,hw⟩:=hI
 refine Dp hw ?_
 clear hw
 cases i with
 | zero=>
   have bi:=EP (k:= .i64) (decide_eq_false (show ¬((0:Nat):Int)>0 by omega))
   replace hS:true=S:=hS
   subst hS
   repeat (first
    | refine Aq ?_|refine Ah ?_|refine Af rfl ?_|refine Ag rfl ?_
    | ((first|refine Ae (by kernel_rfl) ?_|refine Ak (by kernel_rfl) (by kernel_rfl) (by kernel_rfl) ?_)
       repeat (first
        | refine Al (hl:=?_)
        | refine Ad (hl:=?_)
        | refine As (hl:=?_)
        | refine Ax (hl:=?_)
        | refine Ab (hl:=?_)
        | refine AC (hl:=?_)
        | refine AB (hl:=?_)
        | refine AD (hl:=?_)
        | refine Au (hl:=?_)
        | refine Ao (hl:=?_))
       apply Ai.nil;try refine And.intro (by kernel_rfl) ?_)
    | refine Am ?_|refine An ?_)
   refine A9 (And.intro (Or.inr rfl) ?_)
   exact Ct
 | succ i=>
   have bi:=EP (k:= .i64) (decide_eq_true (show ((i+1:Nat):Int)>0 by omega))
   have hin:=Cq (k:= .i64) (show (IntKind.i64).wrap (((i+1:Nat):Int)-1)=((i:Nat):Int) by rw [show (((i+1:Nat):Int)-1)=((i:Nat):Int) by omega];exact IntWalk.i64_in _ (by omega))
   obtain ⟨x,hx,hx'⟩:=DN (l:=l) (i:=i+1) hi0
   obtain ⟨y,hy,hy'⟩:=DN (l:=l) (i:=i) (by omega)
   have C1:=SX (j:=j) (k:=j) (x:=x) (y:=y) (by omega) (by omega)
   unfold RN at hS
   rw [LF hx',LF hy'] at hS
   by_cases h:Dt x y<0
   ·have bl:=Cf (k:= .i64) (decide_eq_true h)
    rw [if_pos h] at hS
    subst hS
    repeat (first
     | refine Aq ?_|refine Ah ?_|refine Af rfl ?_|refine Ag rfl ?_
     | ((first|refine Ae (by kernel_rfl) ?_|refine Ak (by kernel_rfl) (by kernel_rfl) (by kernel_rfl) ?_)
        repeat (first
         | refine Al (hl:=?_)
         | refine Ad (hl:=?_)
         | refine As (hl:=?_)
         | refine Ax (hl:=?_)
         | refine Ab (hl:=?_)
         | refine AC (hl:=?_)
         | refine AB (hl:=?_)
         | refine AD (hl:=?_)
         | refine Au (hl:=?_)
         | refine Ao (hl:=?_)
         | refine Ar hA (hc:=C1) (hl:=?_)
         | refine Cl hx (by omega) (hl:=?_)
         | refine Cl hy (by omega) (hl:=?_))
        apply Ai.nil;try refine And.intro (by kernel_rfl) ?_)
     | refine Am ?_|refine An ?_)
    refine A9 (And.intro (Or.inr rfl) ?_)
    exact Ct
   ·have bl:=Cf (k:= .i64) (decide_eq_false h)
    rw [if_neg h] at hS
    repeat (first
     | refine Aq ?_|refine Ah ?_|refine Af rfl ?_|refine Ag rfl ?_
     | ((first|refine Ae (by kernel_rfl) ?_|refine Ak (by kernel_rfl) (by kernel_rfl) (by kernel_rfl) ?_)
        repeat (first
         | refine Al (hl:=?_)
         | refine Ad (hl:=?_)
         | refine As (hl:=?_)
         | refine Ax (hl:=?_)
         | refine Ab (hl:=?_)
         | refine AC (hl:=?_)
         | refine AB (hl:=?_)
         | refine AD (hl:=?_)
         | refine Au (hl:=?_)
         | refine Ao (hl:=?_)
         | refine Ar hA (hc:=C1) (hl:=?_)
         | refine Cl hx (by omega) (hl:=?_)
         | refine Cl hy (by omega) (hl:=?_))
        apply Ai.nil;try refine And.intro (by kernel_rfl) ?_)
     | refine Am ?_|refine An ?_)
    refine ⟨i,by omega,i,rfl,by omega,hS,?_⟩
    refine AT ?_ ?_ rfl
    ·repeat (first|exact Ac|(refine List.forall_mem_cons.2 ⟨?_,?_⟩;focus (first|exact Ent.of_eq rfl|(refine Ent.one' rfl ?_;(first|exact Aa.ratsLe (by omega)|exact Aa.ratsNil|exact Aa.glNil|(refine Aa.int ?_;omega)|(refine Aa.glLen ?_;first|omega|simp)|exact Aa.of_eq rfl|(refine Aa.q rfl ?_;omega)|exact Z0 _|exact Z2 _|exact Aa.z0 (k:=0)|exact Aa.z1 (k:=0)|exact Aa.z2 (k:=0)|exact Aa.z0|exact Aa.z1|exact Aa.z2))|(refine Ent.agg' rfl ?_;(repeat (first|exact EntL.nil' rfl|(refine EntL.cons' rfl ?_ ?_;focus (first|exact Aa.ratsLe (by omega)|exact Aa.ratsNil|exact Aa.glNil|(refine Aa.int ?_;omega)|(refine Aa.glLen ?_;first|omega|simp)|exact Aa.of_eq rfl|(refine Aa.q rfl ?_;omega)|exact Z0 _|exact Z2 _|exact Aa.z0 (k:=0)|exact Aa.z1 (k:=0)|exact Aa.z2 (k:=0)|exact Aa.z0|exact Aa.z1|exact Aa.z2))));done))))
    ·repeat (first|exact Ac|(refine List.forall_mem_cons.2 ⟨?_,?_⟩;focus (first|exact Ap inferInstance|(refine AG rfl ?_ rfl;focus ((repeat (first|exact EntL.nil' rfl|(refine EntL.cons' rfl ?_ ?_;focus (first|exact Aa.ratsLe (by omega)|exact Aa.ratsNil|exact Aa.glNil|(refine Aa.int ?_;omega)|(refine Aa.glLen ?_;first|omega|simp)|exact Aa.of_eq rfl|(refine Aa.q rfl ?_;omega)|exact Z0 _|exact Z2 _|exact Aa.z0 (k:=0)|exact Aa.z1 (k:=0)|exact Aa.z2 (k:=0)|exact Aa.z0|exact Aa.z1|exact Aa.z2))));done)))))
def TK (l:List Rat) (p:Nat) (c:Bool):Int:=if l.length<2*p+2 then 5 else if 40<l.length-p-1 then 2 else if srt l&&c then 0 else 5
theorem P3 {j p:Nat} {l:List Rat} {c:Bool} (hj:j≤100000) (hl:l.length≤1000000) (hp:1≤p∧p≤6) (hc:Ctr Tryz.prog Amb 59 [.one (BF j l),AK (p:Nat)] (.one (.v (.bool c)))):
  Ctr Tryz.prog Amb 14 [.one (BF j l),AK (p:Nat)] (AK (TK l p c)):=by
 have P0:=GD hp
 have m1:F8 .mul .i64 2 ((p:Nat):Int)=some (.int .i64 ((2*p:Nat):Int)):=by
  show some (Value.int .i64 ((IntKind.i64).wrap (2*((p:Nat):Int))))=_
  rw [show (2*((p:Nat):Int))=((2*p:Nat):Int) by omega,show (IntKind.i64).wrap ((2*p:Nat):Int)=((2*p:Nat):Int) from IntWalk.i64_in _ (by omega)]
 have a1:=BJ (k:= .i64) (show (IntKind.i64).wrap (((2*p:Nat):Int)+2)=((2*p+2:Nat):Int) by rw [show (((2*p:Nat):Int)+2)=((2*p+2:Nat):Int) by omega];exact IntWalk.i64_in _ (by omega))
 unfold TK
 by_cases h1:l.length<2*p+2
 ·have b1:=Cf (k:= .i64) (decide_eq_true (show (l.length:Int)<((2*p+2:Nat):Int) by omega))
  rw [if_pos h1]
  refine AW Tryz.func14 rfl rfl rfl rfl rfl rfl ?_
  intro W0 base D μ0 hA hD
  repeat (first
   | refine Aq ?_|refine Ah ?_|refine Af rfl ?_|refine Ag rfl ?_
   | ((first|refine Ae (by kernel_rfl) ?_|refine Ak (by kernel_rfl) (by kernel_rfl) (by kernel_rfl) ?_)
      repeat (first
       | refine AN (hl:=?_)
       | refine Al (hl:=?_)
       | refine Ad (hl:=?_)
       | refine Ax (hl:=?_)
       | refine BI (hl:=?_)
       | refine AH (hl:=?_)
       | refine AI (hl:=?_)
       | refine AC (hl:=?_)
       | refine AB (hl:=?_)
       | refine AD (hl:=?_)
       | refine Au (hl:=?_)
       | refine Ar hA (hc:=P0) (hl:=?_))
      apply Ai.nil;try refine And.intro (by kernel_rfl) ?_)
   | refine Am ?_|refine An ?_)
  refine A9 (And.intro (Or.inr rfl) ?_)
  exact Ct
 rw [if_neg h1]
 have b1:=Cf (k:= .i64) (decide_eq_false (show ¬(l.length:Int)<((2*p+2:Nat):Int) by omega))
 have P1:=JA (j:=j) (p:=p) hl (by omega)
 by_cases h2:40<l.length-p-1
 ·have b2:=EP (k:= .i64) (decide_eq_true (show ((l.length-p-1:Nat):Int)>40 by omega))
  rw [if_pos h2]
  refine AW Tryz.func14 rfl rfl rfl rfl rfl rfl ?_
  intro W0 base D μ0 hA hD
  repeat (first
   | refine Aq ?_|refine Ah ?_|refine Af rfl ?_|refine Ag rfl ?_
   | ((first|refine Ae (by kernel_rfl) ?_|refine Ak (by kernel_rfl) (by kernel_rfl) (by kernel_rfl) ?_)
      repeat (first
       | refine AN (hl:=?_)
       | refine Al (hl:=?_)
       | refine Ad (hl:=?_)
       | refine Ax (hl:=?_)
       | refine BI (hl:=?_)
       | refine AH (hl:=?_)
       | refine AI (hl:=?_)
       | refine AC (hl:=?_)
       | refine AB (hl:=?_)
       | refine AD (hl:=?_)
       | refine Au (hl:=?_)
       | refine Ar hA (hc:=P0) (hl:=?_)
       | refine Ar hA (hc:=P1) (hl:=?_))
      apply Ai.nil;try refine And.intro (by kernel_rfl) ?_)
   | refine Am ?_|refine An ?_)
  refine A9 (And.intro (Or.inr rfl) ?_)
  exact Ct
 rw [if_neg h2]
 have b2:=EP (k:= .i64) (decide_eq_false (show ¬((l.length-p-1:Nat):Int)>40 by omega))
 have S1:=PW (j:=j) hj hl (by omega)
 generalize srt l=s at*
 cases s with
 | false=>
   refine AW Tryz.func14 rfl rfl rfl rfl rfl rfl ?_
   intro W0 base D μ0 hA hD
   repeat (first
    | refine Aq ?_|refine Ah ?_|refine Af rfl ?_|refine Ag rfl ?_
    | ((first|refine Ae (by kernel_rfl) ?_|refine Ak (by kernel_rfl) (by kernel_rfl) (by kernel_rfl) ?_)
       repeat (first
        | refine AN (hl:=?_)
        | refine Al (hl:=?_)
        | refine Ad (hl:=?_)
        | refine Ax (hl:=?_)
        | refine BI (hl:=?_)
        | refine AH (hl:=?_)
        | refine AI (hl:=?_)
        | refine AC (hl:=?_)
        | refine AB (hl:=?_)
        | refine AD (hl:=?_)
        | refine Au (hl:=?_)
        | refine Ar hA (hc:=P0) (hl:=?_)
        | refine Ar hA (hc:=P1) (hl:=?_)
        | refine Ar hA (hc:=S1) (hl:=?_))
       apply Ai.nil;try refine And.intro (by kernel_rfl) ?_)
    | refine Am ?_|refine An ?_)
   refine A9 (And.intro (Or.inr rfl) ?_)
   exact Ct
 | true=>
   cases c with
   | false=>
     refine AW Tryz.func14 rfl rfl rfl rfl rfl rfl ?_
     intro W0 base D μ0 hA hD
     repeat (first
      | refine Aq ?_|refine Ah ?_|refine Af rfl ?_|refine Ag rfl ?_
      | ((first|refine Ae (by kernel_rfl) ?_|refine Ak (by kernel_rfl) (by kernel_rfl) (by kernel_rfl) ?_)
         repeat (first
          | refine AN (hl:=?_)
          | refine Al (hl:=?_)
          | refine Ad (hl:=?_)
          | refine Ax (hl:=?_)
          | refine BI (hl:=?_)
          | refine AH (hl:=?_)
          | refine AI (hl:=?_)
          | refine AC (hl:=?_)
          | refine AB (hl:=?_)
          | refine AD (hl:=?_)
          | refine Au (hl:=?_)
          | refine Ar hA (hc:=P0) (hl:=?_)
          | refine Ar hA (hc:=P1) (hl:=?_)
          | refine Ar hA (hc:=S1) (hl:=?_)
          | refine Ar hA (hc:=hc) (hl:=?_))
         apply Ai.nil;try refine And.intro (by kernel_rfl) ?_)
      | refine Am ?_|refine An ?_)
     refine A9 (And.intro (Or.inr rfl) ?_)
     exact Ct
   | true=>
     refine AW Tryz.func14 rfl rfl rfl rfl rfl rfl ?_
     intro W0 base D μ0 hA hD
     repeat (first
      | refine Aq ?_|refine Ah ?_|refine Af rfl ?_|refine Ag rfl ?_
      | ((first|refine Ae (by kernel_rfl) ?_|refine Ak (by kernel_rfl) (by kernel_rfl) (by kernel_rfl) ?_)
         repeat (first
          | refine AN (hl:=?_)
          | refine Al (hl:=?_)
          | refine Ad (hl:=?_)
          | refine Ax (hl:=?_)
          | refine BI (hl:=?_)
          | refine AH (hl:=?_)
          | refine AI (hl:=?_)
          | refine AC (hl:=?_)
          | refine AB (hl:=?_)
          | refine AD (hl:=?_)
          | refine Au (hl:=?_)
          | refine Ar hA (hc:=P0) (hl:=?_)
          | refine Ar hA (hc:=P1) (hl:=?_)
          | refine Ar hA (hc:=S1) (hl:=?_)
          | refine Ar hA (hc:=hc) (hl:=?_))
         apply Ai.nil;try refine And.intro (by kernel_rfl) ?_)
      | refine Am ?_|refine An ?_)
     refine A9 (And.intro (Or.inr rfl) ?_)
     exact Ct
end Go.Proofs.YtoabfmaagnmlhaaGreatDoor
