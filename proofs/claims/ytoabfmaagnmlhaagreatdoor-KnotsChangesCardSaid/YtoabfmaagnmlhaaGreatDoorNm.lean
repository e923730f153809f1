/-
  KnotsChanges' example.
-/
import Derived.Test.YtoabfmaagnmlhaaGreatDoorNl
import Derived.Test.YtoabfmaagnmlhaaGreatDoorNg
namespace Go.Proofs.YtoabfmaagnmlhaaGreatDoor
open Go.RowKit
set_option linter.unusedVariables false
set_option linter.unusedSimpArgs false
set_option maxRecDepth 20000
set_option maxHeartbeats 4000000
section
variable {P:Program} {X:Ctx} {ops l:List Oper} {σ:St} {K:List Eff→St→Prop} {dst:Option Tmp} {ty:TypeId} {pos:String} {af:Array Edge} {gd:Option (Nat×Bool)}
theorem OT {s:Nat→AV} {t u:TypeId} {x y:Operand} {a b:ByteArray} (hx:evC s x= .one (.v (.string a))) (hy:evC s y= .one (.v (.string b))) (hab:a=b):C8 P ⟨dst,.binOp .eql t x y u,ty,pos,af,gd⟩ s (.one (.v (.bool true))):=fun W0 μ sz w ρ hρ=>by
 have h:=hρ x (by simp [Op.operands])
 rw [hx] at h
 replace h:ρ x= .string a:=h
 have h':=hρ y (by simp [Op.operands])
 rw [hy] at h'
 replace h':ρ y= .string b:=h'
 refine ⟨.bool true,?_,rfl⟩
 have h4:(binOp .eql t (.string a) (.string b)).run P w= .ok (.bool true) w:=by
  show (Op.stringOp .eql a b).run P w=_
  rw [hab]
  show Result.ok (Value.bool (b.toList==b.toList)) w=_
  rw [beq_self_eq_true]
 have h5:(eqGuard .eql t x y (.string a) (.string b)).run P w= .ok () w:=rfl
 show (do let v←(do eqGuard .eql t x y (ρ x) (ρ y);binOp .eql t (ρ x) (ρ y):Sem Value);pure (Next.value v):Sem Next).run P w=_
 rw [h,h',Sem.run_bind,Sem.run_bind,h5,Result.andThen_ok,h4]
 rfl
theorem Td {t u:TypeId} {x y:Operand} {a b:ByteArray} (hg:gOk ops σ.s gd) (hd:dB X.n dst=true) (hx:evC σ.s x= .one (.v (.string a))) (hy:evC σ.s y= .one (.v (.string b))) (hc:a=b) (hl:Ai P X ops l (σ.app dst ⟨.one (.v (.bool true)),[],[],[]⟩) (fun es σ'=>K (⟨.one (.v (.bool true)),[],[],[]⟩::es) σ')):
  Ai P X ops (⟨dst,.binOp .eql t x y u,ty,pos,af,gd⟩::l) σ K:=BU (o:=⟨dst,.binOp .eql t x y u,ty,pos,af,gd⟩) hg hd (OT hx hy hc) hl
theorem S8 {t u:TypeId} {x y:Operand} {a b:ByteArray} (hg:gOk ops σ.s gd:=by first|exact trivial|exact rfl) (hd:dB X.n dst=true:=by exact rfl) (hx:evC σ.s x= .one (.v (.string a)):=by exact rfl) (hy:evC σ.s y= .one (.v (.string b)):=by exact rfl) (hc:a=b:=by exact rfl) (hl:Ai P X ops l (σ.app dst ⟨.one (.v (.bool true)),[],[],[]⟩) (fun es σ'=>K (⟨.one (.v (.bool true)),[],[],[]⟩::es) σ')):
  Ai P X ops (⟨dst,.binOp .eql t x y u,ty,pos,af,gd⟩::l) σ K:=Td hg hd hx hy hc hl
end
theorem NJ {j:Nat} {x:Rat} {s:ByteArray} (hj:j≤100000) (h:(Ny x).toArray=s.data):Ctr Tryz.prog Amb 52 [nm j x] (.one (.v (.string s))):=by
 have:=Tp (x:=x) hj
 rw [h] at this
 exact this
def kn7:List Rat:= [0,0,0,1,2,2,2]
theorem P4 (hc:Ctr Tryz.prog Amb 59 [.one (BF 2 kn7),AK (2:Nat)] (.one (.v (.bool true)))):
  Ctr Tryz.prog Amb 12 [] (.one (.v (.bool true))):=by
 have I0:=Lf (n:=0) rfl
 have I1:=Lf (n:=1) rfl
 have I2:=Lf (n:=2) rfl
 have K1:=P3 (j:=2) (p:=2) (l:=kn7) (c:=true) (by decide) (by decide) (by decide) hc
 have ek:TK kn7 2 true=0:=by decide+kernel
 rw [ek] at K1
 have G1:=Hh (j:=2) (p:=2) (l:=kn7) (by decide) (by decide) (by decide) (by decide)
 have eg:Fu kn7 2= [0,(1:Rat)/2,(3:Rat)/2,2]:=by decide+kernel
 rw [eg] at G1
 have P1:=JA (j:=2) (p:=2) (l:=kn7) (by decide) (by decide)
 have T1:=NJ (j:=2*(2+3)+4) (x:=(1:Rat)/2) (s:= { data:= #[49,47,50] }) (by decide) (by decide+kernel)
 have T2:=NJ (j:=2*(2+3)+4) (x:=(3:Rat)/2) (s:= { data:= #[51,47,50] }) (by decide) (by decide+kernel)
 replace P1:Ctr Tryz.prog Amb 15 [.one (BF 2 kn7),AK (2:Nat)] (AK 4):=P1
 have hx:([0,(1:Rat)/2,(3:Rat)/2,2]:List Rat)[((1:Int)).toNat]?=some ((1:Rat)/2):=rfl
 have hy:([0,(1:Rat)/2,(3:Rat)/2,2]:List Rat)[((2:Int)).toNat]?=some ((3:Rat)/2):=rfl
 have b4:=LY (k:= .i64) (decide_eq_true (show ((([0,(1:Rat)/2,(3:Rat)/2,2]:List Rat).length:Nat):Int)=4 from rfl))
 have hl4:([0,(1:Rat)/2,(3:Rat)/2,2]:List Rat).length=4:=rfl
 generalize ([0,(1:Rat)/2,(3:Rat)/2,2]:List Rat)=L at*
 refine AW Tryz.func12 rfl rfl rfl rfl rfl rfl ?_
 intro W0 base D μ0 hA hD
 repeat (first
  | refine Aq ?_|refine Ah ?_|refine Af rfl ?_|refine Ag rfl ?_
  | (refine Ae (by kernel_rfl) ?_
     repeat (first
      | refine AN (hl:=?_)
      | refine Al (hl:=?_)
      | refine Ad (hl:=?_)
      | refine As (hl:=?_)
      | refine Ax (hl:=?_)
      | refine Ab (hl:=?_)
      | refine AH (hl:=?_)
      | refine AI (hl:=?_)
      | refine AU (hl:=?_)
      | refine AC (hl:=?_)
      | refine AB (hl:=?_)
      | refine AD (hl:=?_)
      | refine Au (hl:=?_)
      | refine Ao (hl:=?_)
      | refine Az (hl:=?_))
     apply Ai.nil)
  | refine Am ?_|refine An ?_)
 refine Cr (fun c σ=> ∃(i:Nat) (done:List Rat),c=7-i∧i≤7∧done=kn7.take i∧Wk ⟨W0,base,D,45,[],μ0⟩ σ [(1,.one (.gl 900 done.length 3)),(2,AK (i:Nat))] [(900,Bz (nmD 2) done)]) (n:=7) ⟨0,[],rfl,by decide,rfl,?_⟩ ?_
 ·refine AT ?_ ?_ rfl
  ·repeat (first|exact Ac|(refine List.forall_mem_cons.2 ⟨?_,?_⟩;focus (first|exact Ent.of_eq rfl|(refine Ent.one' rfl ?_;(first|exact Aa.ratsLe (by omega)|exact Aa.ratsNil|exact Aa.glNil|(refine Aa.int ?_;omega)|(refine Aa.glLen ?_;first|omega|simp)|exact Aa.of_eq rfl|(refine Aa.q rfl ?_;omega)|exact Z0 _|exact Z2 _|exact Aa.z0 (k:=0)|exact Aa.z1 (k:=0)|exact Aa.z2 (k:=0)|exact Aa.z0|exact Aa.z1|exact Aa.z2))|(refine Ent.agg' rfl ?_;(repeat (first|exact EntL.nil' rfl|(refine EntL.cons' rfl ?_ ?_;focus (first|exact Aa.ratsLe (by omega)|exact Aa.ratsNil|exact Aa.glNil|(refine Aa.int ?_;omega)|(refine Aa.glLen ?_;first|omega|simp)|exact Aa.of_eq rfl|(refine Aa.q rfl ?_;omega)|exact Z0 _|exact Z2 _|exact Aa.z0 (k:=0)|exact Aa.z1 (k:=0)|exact Aa.z2 (k:=0)|exact Aa.z0|exact Aa.z1|exact Aa.z2))));done))))
  ·repeat (first|exact Ac|(refine List.forall_mem_cons.2 ⟨?_,?_⟩;focus (first|exact Ap inferInstance|(refine AG rfl ?_ rfl;focus ((repeat (first|exact EntL.nil' rfl|(refine EntL.cons' rfl ?_ ?_;focus (first|exact Aa.ratsLe (by omega)|exact Aa.ratsNil|exact Aa.glNil|(refine Aa.int ?_;omega)|(refine Aa.glLen ?_;first|omega|simp)|exact Aa.of_eq rfl|(refine Aa.q rfl ?_;omega)|exact Z0 _|exact Z2 _|exact Aa.z0 (k:=0)|exact Aa.z1 (k:=0)|exact Aa.z2 (k:=0)|exact Aa.z0|exact Aa.z1|exact Aa.z2))));done)))))
 intro c σ hI
 obtain ⟨i,done,hc,hi0,hdone,hw⟩:=hI
 refine Dp hw ?_
 clear hw
 by_cases hi:i<7
 ·have bi:=Cf (k:= .i64) (decide_eq_true (show ((i:Nat):Int)<7 by omega))
  have hin:=BJ (k:= .i64) (show (IntKind.i64).wrap ((i:Int)+1)=((i+1:Nat):Int) from IntWalk.i64_in _ (by omega))
  have hs:=Cq (k:= .i64) (show (IntKind.i64).wrap ((i:Int)-2)=(i:Int)-2 from IntWalk.i64_in _ (by omega))
  obtain ⟨x,u,v,hx0,hu,hv,J1⟩: ∃(x:Rat) (u v:Int),kn7[i]?=some x∧(if (2:Int)<(i:Int)-2 then 2 else (i:Int)-2)=u∧(if (0:Int)<u then u else 0)=v∧Ctr Tryz.prog Amb 20 [AK v] (nm 2 x):=by
   match i,hi with
   | 0,_=>exact ⟨0,-2,0,rfl,rfl,rfl,I0⟩
   | 1,_=>exact ⟨0,-1,0,rfl,rfl,rfl,I0⟩
   | 2,_=>exact ⟨0,0,0,rfl,rfl,rfl,I0⟩
   | 3,_=>exact ⟨1,1,1,rfl,rfl,rfl,I1⟩
   | 4,_=>exact ⟨2,2,2,rfl,rfl,rfl,I2⟩
   | 5,_=>exact ⟨2,2,2,rfl,rfl,rfl,I2⟩
   | 6,_=>exact ⟨2,2,2,rfl,rfl,rfl,I2⟩
  have hlt:done.length≤7:=by rw [hdone,List.length_take];omega
  have hnew:done++ [x]=kn7.take (i+1):=by rw [hdone,List.take_add_one,hx0];rfl
  clear I0 I1 I2 K1 G1 P1 T1 T2 hdone hx0 hx hy b4
  repeat (first
   | refine Aq ?_|refine Ah ?_|refine Af rfl ?_|refine Ag rfl ?_
   | (refine Ae (by kernel_rfl) ?_
      repeat (first
       | refine AN (hl:=?_)
       | refine Al (hl:=?_)
       | refine Ad (hl:=?_)
       | refine As (hl:=?_)
       | refine Ax (hl:=?_)
       | refine Ab (hl:=?_)
       | refine AH (hl:=?_)
       | refine AI (hl:=?_)
       | refine AU (hl:=?_)
       | refine AC (hl:=?_)
       | refine AB (hl:=?_)
       | refine AD (hl:=?_)
       | refine Au (hl:=?_)
       | refine Ao (hl:=?_)
       | refine Az (hl:=?_))
      apply Ai.nil)
   | refine Am ?_|refine An ?_)
  try refine Aq ?_
  refine CV 7 (by simp only [List.take_succ_cons,List.take_zero,List.drop_succ_cons,List.drop_zero];exact ⟨rfl,rfl⟩) (by kernel_rfl) ?_
  repeat (first
   | refine AN (hl:=?_)
   | refine Al (hl:=?_)
   | refine Ad (hl:=?_)
   | refine As (hl:=?_)
   | refine Ax (hl:=?_)
   | refine Ab (hl:=?_)
   | refine AH (hl:=?_)
   | refine AI (hl:=?_)
   | refine AU (hl:=?_)
   | refine AC (hl:=?_)
   | refine AB (hl:=?_)
   | refine AD (hl:=?_)
   | refine Au (hl:=?_)
   | refine Ao (hl:=?_)
   | refine Az (hl:=?_)
   | refine Ar hA (hc:=J1) (hl:=?_))
  apply Ai.nil
  refine ES (k:=900) (ss:= [(2,AK (i:Nat))]) (bs:= []) (ns:=(nmC 2 x)) hD ?_ ?_ ?_
  ·exact ⟨by omega,by omega⟩
  ·refine AT ?_ ?_ rfl
   ·repeat (first|exact Ac|(refine List.forall_mem_cons.2 ⟨?_,?_⟩;focus (first|exact Ent.of_eq rfl|(refine Ent.one' rfl ?_;(first|exact Aa.ratsLe (by omega)|exact Aa.ratsNil|exact Aa.glNil|(refine Aa.int ?_;omega)|(refine Aa.glLen ?_;first|omega|simp)|exact Aa.of_eq rfl|(refine Aa.q rfl ?_;omega)|exact Z0 _|exact Z2 _|exact Aa.z0 (k:=0)|exact Aa.z1 (k:=0)|exact Aa.z2 (k:=0)|exact Aa.z0|exact Aa.z1|exact Aa.z2))|(refine Ent.agg' rfl ?_;(repeat (first|exact EntL.nil' rfl|(refine EntL.cons' rfl ?_ ?_;focus (first|exact Aa.ratsLe (by omega)|exact Aa.ratsNil|exact Aa.glNil|(refine Aa.int ?_;omega)|(refine Aa.glLen ?_;first|omega|simp)|exact Aa.of_eq rfl|(refine Aa.q rfl ?_;omega)|exact Z0 _|exact Z2 _|exact Aa.z0 (k:=0)|exact Aa.z1 (k:=0)|exact Aa.z2 (k:=0)|exact Aa.z0|exact Aa.z1|exact Aa.z2))));done))))
   ·repeat (first|exact Ac|(refine List.forall_mem_cons.2 ⟨?_,?_⟩;focus (first|exact Ap inferInstance|(refine AG rfl ?_ rfl;focus ((repeat (first|exact EntL.nil' rfl|(refine EntL.cons' rfl ?_ ?_;focus (first|exact Aa.ratsLe (by omega)|exact Aa.ratsNil|exact Aa.glNil|(refine Aa.int ?_;omega)|(refine Aa.glLen ?_;first|omega|simp)|exact Aa.of_eq rfl|(refine Aa.q rfl ?_;omega)|exact Z0 _|exact Z2 _|exact Aa.z0 (k:=0)|exact Aa.z1 (k:=0)|exact Aa.z2 (k:=0)|exact Aa.z0|exact Aa.z1|exact Aa.z2))));done)))))
  repeat (refine DI rfl ?_;(first|refine Ad (hl:=?_)|refine Al (hl:=?_)|refine At (hl:=?_));apply Ai.nil)
  refine DJ ?_
  repeat (first
   | refine Aq ?_|refine Ah ?_|refine Af rfl ?_|refine Ag rfl ?_
   | (refine Ae (by kernel_rfl) ?_
      repeat (first
       | refine AN (hl:=?_)
       | refine Al (hl:=?_)
       | refine Ad (hl:=?_)
       | refine As (hl:=?_)
       | refine Ax (hl:=?_)
       | refine Ab (hl:=?_)
       | refine AH (hl:=?_)
       | refine AI (hl:=?_)
       | refine AU (hl:=?_)
       | refine AC (hl:=?_)
       | refine AB (hl:=?_)
       | refine AD (hl:=?_)
       | refine Au (hl:=?_)
       | refine Ao (hl:=?_)
       | refine Az (hl:=?_))
      apply Ai.nil)
   | refine Am ?_|refine An ?_)
  refine ⟨7-(i+1),by omega,i+1,done++ [x],rfl,by omega,hnew,?_⟩
  refine AT ?_ ?_ rfl
  ·repeat (first|exact Ac|(refine List.forall_mem_cons.2 ⟨?_,?_⟩;focus (first|exact Ent.of_eq rfl|(refine Ent.one' rfl ?_;(first|exact Aa.ratsLe (by omega)|exact Aa.ratsNil|exact Aa.glNil|(refine Aa.int ?_;omega)|(refine Aa.glLen ?_;first|omega|simp)|exact Aa.of_eq rfl|(refine Aa.q rfl ?_;omega)|exact Z0 _|exact Z2 _|exact Aa.z0 (k:=0)|exact Aa.z1 (k:=0)|exact Aa.z2 (k:=0)|exact Aa.z0|exact Aa.z1|exact Aa.z2))|(refine Ent.agg' rfl ?_;(repeat (first|exact EntL.nil' rfl|(refine EntL.cons' rfl ?_ ?_;focus (first|exact Aa.ratsLe (by omega)|exact Aa.ratsNil|exact Aa.glNil|(refine Aa.int ?_;omega)|(refine Aa.glLen ?_;first|omega|simp)|exact Aa.of_eq rfl|(refine Aa.q rfl ?_;omega)|exact Z0 _|exact Z2 _|exact Aa.z0 (k:=0)|exact Aa.z1 (k:=0)|exact Aa.z2 (k:=0)|exact Aa.z0|exact Aa.z1|exact Aa.z2))));done))))
  ·repeat (first|exact Ac|(refine List.forall_mem_cons.2 ⟨?_,?_⟩;focus (first|exact Ap inferInstance|(refine C7 inferInstance ?_;(repeat (first|exact EntL.nil' rfl|(refine EntL.cons' rfl ?_ ?_;focus (first|exact Aa.ratsLe (by omega)|exact Aa.ratsNil|exact Aa.glNil|(refine Aa.int ?_;omega)|(refine Aa.glLen ?_;first|omega|simp)|exact Aa.of_eq rfl|(refine Aa.q rfl ?_;omega)|exact Z0 _|exact Z2 _|exact Aa.z0 (k:=0)|exact Aa.z1 (k:=0)|exact Aa.z2 (k:=0)|exact Aa.z0|exact Aa.z1|exact Aa.z2))));done)|(refine AG rfl ?_ rfl;focus ((repeat (first|exact EntL.nil' rfl|(refine EntL.cons' rfl ?_ ?_;focus (first|exact Aa.ratsLe (by omega)|exact Aa.ratsNil|exact Aa.glNil|(refine Aa.int ?_;omega)|(refine Aa.glLen ?_;first|omega|simp)|exact Aa.of_eq rfl|(refine Aa.q rfl ?_;omega)|exact Z0 _|exact Z2 _|exact Aa.z0 (k:=0)|exact Aa.z1 (k:=0)|exact Aa.z2 (k:=0)|exact Aa.z0|exact Aa.z1|exact Aa.z2))));done)))))
 ·obtain rfl:i=7:=by omega
  replace hdone:done=kn7:=hdone
  subst hdone
  have bi:=Cf (k:= .i64) (decide_eq_false (show ¬((7:Nat):Int)<7 by omega))
  repeat (first
   | refine Aq ?_|refine Ah ?_|refine Af rfl ?_|refine Ag rfl ?_
   | (refine Ae (by kernel_rfl) ?_
      repeat (first
       | refine AN (hl:=?_)
       | refine Al (hl:=?_)
       | refine Ad (hl:=?_)
       | refine As (hl:=?_)
       | refine Ax (hl:=?_)
       | refine Ab (hl:=?_)
       | refine AH (hl:=?_)
       | refine AI (hl:=?_)
       | refine AU (hl:=?_)
       | refine AC (hl:=?_)
       | refine AB (hl:=?_)
       | refine AD (hl:=?_)
       | refine Au (hl:=?_)
       | refine Ao (hl:=?_)
       | refine Az (hl:=?_))
      apply Ai.nil)
   | refine Am ?_|refine An ?_)
  refine Dg 900 hD (ss:= [(1,.one (BF 2 kn7))]) (bs:= []) ?_ ?_
  ·refine Ie ?_ ?_ rfl
   ·repeat (first|exact Ac|(refine List.forall_mem_cons.2 ⟨?_,?_⟩;focus (first|exact FH inferInstance|refine FzA.ent ?_;first|exact Ent.of_eq rfl|(refine Ent.one' rfl ?_;(first|exact Aa.ratsLe (by omega)|exact Aa.ratsNil|exact Aa.glNil|(refine Aa.int ?_;omega)|(refine Aa.glLen ?_;first|omega|simp)|exact Aa.of_eq rfl|(refine Aa.q rfl ?_;omega)|exact Z0 _|exact Z2 _|exact Aa.z0 (k:=0)|exact Aa.z1 (k:=0)|exact Aa.z2 (k:=0)|exact Aa.z0|exact Aa.z1|exact Aa.z2))|(refine Ent.agg' rfl ?_;(repeat (first|exact EntL.nil' rfl|(refine EntL.cons' rfl ?_ ?_;focus (first|exact Aa.ratsLe (by omega)|exact Aa.ratsNil|exact Aa.glNil|(refine Aa.int ?_;omega)|(refine Aa.glLen ?_;first|omega|simp)|exact Aa.of_eq rfl|(refine Aa.q rfl ?_;omega)|exact Z0 _|exact Z2 _|exact Aa.z0 (k:=0)|exact Aa.z1 (k:=0)|exact Aa.z2 (k:=0)|exact Aa.z0|exact Aa.z1|exact Aa.z2))));done))))
   ·repeat (first|exact Ac|(refine List.forall_mem_cons.2 ⟨?_,?_⟩;focus (first|exact Ap inferInstance|(refine AG rfl ?_ rfl;focus ((repeat (first|exact EntL.nil' rfl|(refine EntL.cons' rfl ?_ ?_;focus (first|exact Aa.ratsLe (by omega)|exact Aa.ratsNil|exact Aa.glNil|(refine Aa.int ?_;omega)|(refine Aa.glLen ?_;first|omega|simp)|exact Aa.of_eq rfl|(refine Aa.q rfl ?_;omega)|exact Z0 _|exact Z2 _|exact Aa.z0 (k:=0)|exact Aa.z1 (k:=0)|exact Aa.z2 (k:=0)|exact Aa.z0|exact Aa.z1|exact Aa.z2))));done)))))
  repeat (first
   | refine Aq ?_|refine Ah ?_|refine Af rfl ?_|refine Ag rfl ?_
   | ((first|refine Ae (by kernel_rfl) ?_|refine Ak (by kernel_rfl) (by kernel_rfl) (by kernel_rfl) ?_)
      repeat (first
       | refine AN (hl:=?_)
       | refine Al (hl:=?_)
       | refine Ad (hl:=?_)
       | refine As (hl:=?_)
       | refine Ax (hl:=?_)
       | refine Ab (hl:=?_)
       | refine AH (hl:=?_)
       | refine AI (hl:=?_)
       | refine AU (hl:=?_)
       | refine AC (hl:=?_)
       | refine AB (hl:=?_)
       | refine AD (hl:=?_)
       | refine Au (hl:=?_)
       | refine Ao (hl:=?_)
       | refine Az (hl:=?_)
       | refine Ar hA (hc:=G1) (hl:=?_)
       | refine Ar hA (hc:=K1) (hl:=?_)
       | refine Ar hA (hc:=P1) (hl:=?_)
       | refine Ar hA (hc:=T1) (hl:=?_)
       | refine Ar hA (hc:=T2) (hl:=?_)
       | refine Cl (i:=1) hx (by omega) (hl:=?_)
       | refine Cl (i:=2) hy (by omega) (hl:=?_)
       | refine S8 (hl:=?_))
      apply Ai.nil;try refine And.intro (by kernel_rfl) ?_)
   | refine Am ?_|refine An ?_)
  refine A9 (And.intro (Or.inr rfl) ?_)
  exact Ct
end Go.Proofs.YtoabfmaagnmlhaaGreatDoor
