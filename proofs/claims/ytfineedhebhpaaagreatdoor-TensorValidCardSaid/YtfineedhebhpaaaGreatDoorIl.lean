/-
  Several texts in one: Zfe, Zff.
-/
import Derived.Test.YtfineedhebhpaaaGreatDoorIk
namespace Go.Proofs.YtfineedhebhpaaaGreatDoor
open List renaming getElem?_eq_getElem→Yv
open Go.RowKit
set_option linter.unusedVariables false
set_option linter.unusedSimpArgs false
set_option maxRecDepth 20000
set_option maxHeartbeats 4000000
theorem Ent.netLe {j k u v:Nat} {l:List Rat} (h:j≤k):Ent (net j u v l) (net k u v l):=Ent.agg (.cons Af.same (.cons Af.same (.cons (Af.ratsLe h) .nil)))
theorem Ctr.netUp {f:FuncId} {j k u v:Nat} {l:List Rat} {us:List AV} {R:AV} (h:Ctr Tryz.prog Amb f (net k u v l::us) R) (hj:j≤k):Ctr Tryz.prog Amb f (net j u v l::us) R:=BJ.weak h (Ents.cons (Ent.netLe hj) Ents.same) Ent.same
section
variable {j jt u v:Nat} {l:List Rat} {t a b:Rat}
theorem Kz {J:Nat} (hu:u≤40) (hv:v≤40) (hl:l.length=(u+1)*(v+1)) (hj:j≤10000) (hjt:jt≤10000) (hr: ∀r∈l,RSz j r) (ht:RSz jt t) (hJ:2+(v+1)*j+j+(v*(jt+1)+1)≤J):
  Ctr Tryz.prog Amb 24 [net j u v l,nm jt t] (.one (AH J (EB u v l t))):=by
 refine Ctr.shortRes (j:=2000000+2000000+2) ?_ (J8 hl hr ht hJ)
 have R1:=LB (j:=j) hu hv hl
 have hrl:(Cd u v l).length=u+1:=BC
 have E1: ∀i,i≤u→Ctr Tryz.prog Amb 89 [.one (AH j (A0 v l i)),nm jt t] (nm (2000000+2000000+2) (CB t (cf (A0 v l i)) v)):=fun i hi=>Ts (CL hl hi) hv hj hjt (fun r h=>hr r (Ep h)) ht rfl
 have hrow: ∀i,i≤u→(Cd u v l)[((i:Nat):Int).toNat]?=some (A0 v l i):=fun i h=>by rw [Int.toNat_natCast];exact KH h
 clear hr ht hJ
 generalize Cd u v l=RS at*
 obtain ⟨S,hS⟩: ∃S,S=EB u v l t:=⟨_,rfl⟩
 unfold EB at hS
 rw [show EB u v l t=S by rw [hS];rfl]
 refine Aj Tryz.func24 rfl rfl rfl rfl rfl rfl ?_
 intro W0 base D μ0 hA hD
 repeat (first|refine Ag ?_|refine Ac ?_|refine Aa rfl ?_|refine Ab rfl ?_|refine Am ?_|refine An ?_|refine Ad ?_|refine Ae ?_)
 refine AW (fun c σ=> ∃(i:Nat) (done:List Rat),c=u+1-i∧i≤u+1∧done=tab i (fun q=>CB t (cf (A0 v l q)) v)∧Wk ⟨W0,base,D,23,[],μ0⟩ σ [(3,.one (.ptr 3 0)),(5,.one (.gl 900 done.length 3)),(9,.one (FH j RS)),(10,Ay (RS.length:Nat)),(11,Ay (i:Nat))] [(3,nmC jt t),(900,Ao (nmD (2000000+2000000+2)) done)]) (n:=u+1) ⟨0,[],by omega,by omega,rfl,?_⟩ ?_
 ·exact BF
 clear R1
 intro c σ hI
 obtain ⟨i,done,hc,hi0,hdone,hw⟩:=hI
 refine A8 hw ?_
 clear hw
 have hdl:done.length=i:=by rw [hdone];exact BC
 by_cases hi:i<u+1
 ·have bi:=AS (k:= .i64) (decide_eq_true (show ((i:Nat):Int)<((RS.length:Nat):Int) by omega))
  have hin:=AR (a:=i) (by omega)
  have hx:=hrow i (by omega)
  have H1:=E1 i (by omega)
  have hd':done++ [CB t (cf (A0 v l i)) v]=tab (i+1) (fun q=>CB t (cf (A0 v l q)) v):=by rw [hdone];exact Fg
  clear hdone E1
  generalize CB t (cf (A0 v l i)) v=y at*
  generalize A0 v l i=row at*
  repeat (first|refine Ag ?_|refine Ac ?_|refine Aa rfl ?_|refine Ab rfl ?_|refine Am ?_|refine An ?_|refine Ad ?_|refine Ae ?_)
  try refine Ag ?_
  refine DS 5 (by simp only [List.take_succ_cons,List.take_zero,List.drop_succ_cons,List.drop_zero];exact ⟨rfl,rfl⟩) (by kernel_rfl) ?_
  repeat (first
   | refine AK (hl:=?_)
   | refine As (hl:=?_)
   | refine BB (hl:=?_)
   | refine Fb (hl:=?_)
   | refine BN (hl:=?_)
   | refine AT (hl:=?_)
   | refine B7 (hl:=?_)
   | refine B6 (hl:=?_)
   | refine B8 (hl:=?_)
   | refine Dp (hl:=?_)
   | refine AY (hl:=?_)
   | refine BD (hl:=?_)
   | refine AD hA (hc:=H1) (hl:=?_))
  apply Ah.nil
  refine FP (k:=900) (ss:= [(3,.one (.ptr 3 0)),(9,.one (FH j RS)),(10,Ay (RS.length:Nat)),(11,Ay (i:Nat))]) (bs:= [(3,nmC jt t)]) (ns:=(nmC (2000000+2000000+2) y)) hD ?_ ?_ ?_
  ·exact ⟨by omega,by omega⟩
  ·exact BF
  repeat (refine Dy rfl ?_;(first|refine As (hl:=?_)|refine AK (hl:=?_)|refine AO (hl:=?_));apply Ah.nil)
  refine DH ?_
  repeat (first|refine Ag ?_|refine Ac ?_|refine Aa rfl ?_|refine Ab rfl ?_|refine Am ?_|refine An ?_|refine Ad ?_|refine Ae ?_)
  refine ⟨c-1,by omega,i+1,done++ [y],by omega,by omega,hd',?_⟩
  exact BF
 ·obtain rfl:i=u+1:=by omega
  have bi:=AS (k:= .i64) (decide_eq_false (show ¬((u+1:Nat):Int)<((RS.length:Nat):Int) by omega))
  rw [←hS] at hdone
  subst hdone
  repeat (first|refine Ag ?_|refine Ac ?_|refine Aa rfl ?_|refine Ab rfl ?_|refine Am ?_|refine An ?_|refine Ad ?_|refine Ae ?_)
  refine A5 900 hD (ss:= [(4,.one (AH (2000000+2000000+2) done))]) (bs:= []) ?_ ?_
  ·exact IO
  refine Ap (And.intro (Or.inr rfl) ?_)
  exact AA
theorem Tj {J:Nat} (hu:u≤40) (hv:v≤40) (hl:l.length=(u+1)*(v+1)) (hj:j≤10000) (hjt:jt≤10000) (hr: ∀r∈l,RSz j r) (ht:RSz jt t) (hJ:2+(u+1)*j+j+(u*(jt+1)+1)≤J):
  Ctr Tryz.prog Amb 22 [net j u v l,nm jt t] (.one (AH J (EB v u (Dq u v l) t))):=by
 have T1:=F0 (j:=j) hu hv hl
 have C1:=Kz (j:=j) (jt:=jt) (u:=v) (v:=u) (l:=Dq u v l) (t:=t) hv hu Cv hj hjt (fun r h=>hr r (Fe hl h)) ht hJ
 refine Aj Tryz.func22 rfl rfl rfl rfl rfl rfl ?_
 intro W0 base D μ0 hA hD
 repeat (first|refine Ag ?_|refine Ac ?_|refine Aa rfl ?_|refine Ab rfl ?_|refine Am ?_|refine An ?_|refine Ad ?_|refine Ae ?_)
 refine Ap (And.intro (Or.inr rfl) ?_)
 exact AA
theorem Qg {js ju:Nat} (hu:u≤40) (hv:v≤40) (hl:l.length=(u+1)*(v+1)) (hj:j≤10000) (hjt:jt≤10000) (hju:ju≤10000) (hr: ∀r∈l,RSz j r) (ha:RSz jt a) (hb:RSz ju b) (hJ:2+(u+1)*j+j+(u*(jt+1)+1)≤js) (hJ2:js≤10000):
  Ctr Tryz.prog Amb 19 [net j u v l,nm jt a,nm ju b] (nm (2000000+2000000+2) (evR u v l a b)):=by
 have R1:=Tj (j:=j) (jt:=jt) (t:=a) hu hv hl hj hjt hr ha hJ
 have E1:=Ts (j:=js) (jt:=ju) (n:=v) (l:=EB v u (Dq u v l) a) (t:=b) Gj hv hJ2 hju (J8 Cv (fun r h=>hr r (Fe hl h)) ha hJ) hb rfl
 unfold evR
 generalize EB v u (Dq u v l) a=L at*
 refine Aj Tryz.func19 rfl rfl rfl rfl rfl rfl ?_
 intro W0 base D μ0 hA hD
 repeat (first|refine Ag ?_|refine Ac ?_|refine Aa rfl ?_|refine Ab rfl ?_|refine Am ?_|refine An ?_|refine Ad ?_|refine Ae ?_)
 refine Ap (And.intro (Or.inr rfl) ?_)
 exact AA
abbrev FT:Nat:=9000000+9000000+2
def Dv (n:Nat) (a b:Rat) (p:List Rat):List Rat:=tab (n+1) (bpR p n a b)
theorem F7 {n:Nat} {p:List Rat} :(Dv n a b p).length=n+1:=BC
theorem Qf {n js:Nat} {p:List Rat} (hp:p.length=n+1) (hn:n≤40) (hj:js≤10000) (hjt:jt≤10000) (hr: ∀r∈p,RSz js r) (ha:RSz jt a) (hb:RSz jt b):
  Ctr Tryz.prog Amb 94 [.one (AH FT p),nm jt a,nm jt b] (.one (AH FT (Dv n a b p))):=
 (Xf (j:=js) (jt:=jt) (a:=a) (b:=b) hp hn hj hjt hr ha hb rfl).short1 hr
theorem To {n js:Nat} {p:List Rat} (hp:p.length=n+1) (hn:n≤40) (hj:js≤10000) (hjt:jt≤10000) (hr: ∀r∈p,RSz js r) (ha:RSz jt a) (hb:RSz jt b):
  BJ Tryz.prog Amb 93 [.one (AH FT p),.one (.ptr 901 0),.one (.ptr 902 0)] [(901,nmC jt a,nmC jt a),(902,nmC jt b,nmC jt b)] (.one (AH FT (Dv n a b p))):=by
 have P1:=Qf hp hn hj hjt hr ha hb
 generalize Dv n a b p=q at*
 apply Aj Tryz.func93 rfl rfl rfl rfl rfl
 case hin=>simp [inA,inC]
 intro W0 base D μ0 hA hD
 repeat (first|refine Ag ?_|refine Ac ?_|refine Aa rfl ?_|refine Ab rfl ?_|refine Am ?_|refine An ?_|refine Ad ?_|refine Ae ?_)
 refine Ap (And.intro (Or.inr rfl) ?_)
 exact Sh (hb:=by repeat (first|exact Ak|refine List.forall_mem_cons.2 ⟨⟨rfl,rfl,rfl⟩,?_⟩))
theorem Tm {n js:Nat} {p:List Rat} (hp:p.length=n+1) (hn:n≤40) (hj:js≤10000) (hjt:jt≤10000) (hr: ∀r∈p,RSz js r) (ha:RSz jt a) (hb:RSz jt b):
  BJ Tryz.prog Amb 96 [.one (AH FT p),.one (.ptr 901 0),.one (.ptr 902 0)] [(901,nmC jt a,nmC jt a),(902,nmC jt b,nmC jt b)] (.one (AH FT (Dv n a b p))):=by
 have P1:=Qf hp hn hj hjt hr ha hb
 generalize Dv n a b p=q at*
 apply Aj Tryz.func96 rfl rfl rfl rfl rfl
 case hin=>simp [inA,inC]
 intro W0 base D μ0 hA hD
 repeat (first|refine Ag ?_|refine Ac ?_|refine Aa rfl ?_|refine Ab rfl ?_|refine Am ?_|refine An ?_|refine Ad ?_|refine Ae ?_)
 refine Ap (And.intro (Or.inr rfl) ?_)
 exact Sh (hb:=by repeat (first|exact Ak|refine List.forall_mem_cons.2 ⟨⟨rfl,rfl,rfl⟩,?_⟩))
theorem Tn (hu:u≤40) (hv:v≤40) (hl:l.length=(u+1)*(v+1)) (hj:j≤10000) (hjt:jt≤10000) (hr: ∀r∈l,RSz j r) (ha:RSz jt a) (hb:RSz jt b):
  Ctr Tryz.prog Amb 27 [net j u v l,nm jt a,nm jt b] (net FT u v (byC u v u (Dv u a b) l)):=by
 refine Ctr.netUp (k:=FT) ?_ (show j≤18000002 by omega)
 have B1:=(LE (g:=93) (j:=FT) (m:=u) (F:=Dv u a b) (j1:=jt) (j2:=jt) (x1:=a) (x2:=b) hu hv hl hu (fun _ _=>F7) fun i hi=>To (js:=j) (CL Cv hi) hu hj hjt (fun r h=>hr r (Fe hl (Ep h))) ha hb).ren (fun k=>if k=901 then 4 else 5) (by simp) rfl rfl
 replace B1:BJ Tryz.prog Amb 92 [net FT u v l,.one (.fn 93 [(4,0),(5,0)])] [(4,nmC jt a,nmC jt a),(5,nmC jt b,nmC jt b)] (net FT u v (byC u v u (Dv u a b) l)):=B1
 generalize byC u v u (Dv u a b) l=q at*
 refine Aj Tryz.func27 rfl rfl rfl rfl rfl rfl ?_
 intro W0 base D μ0 hA hD
 repeat (first|refine Ag ?_|refine Ac ?_|refine Aa rfl ?_|refine Ab rfl ?_|refine Am ?_|refine An ?_|refine Ad ?_|refine Ae ?_)
 refine Ap (And.intro (Or.inr rfl) ?_)
 exact AA
theorem Tk (hu:u≤40) (hv:v≤40) (hl:l.length=(u+1)*(v+1)) (hj:j≤10000) (hjt:jt≤10000) (hr: ∀r∈l,RSz j r) (ha:RSz jt a) (hb:RSz jt b):
  Ctr Tryz.prog Amb 29 [net j u v l,nm jt a,nm jt b] (net FT u v (byR u v (Dv v a b) l)):=by
 refine Ctr.netUp (k:=FT) ?_ (show j≤18000002 by omega)
 have B1:=(KD (g:=96) (j:=FT) (m:=v) (F:=Dv v a b) (j1:=jt) (j2:=jt) (x1:=a) (x2:=b) hu hv hl hv (fun _ _=>F7) fun i hi=>Tm (js:=j) (CL hl hi) hv hj hjt (fun r h=>hr r (Ep h)) ha hb).ren (fun k=>if k=901 then 4 else 5) (by simp) rfl rfl
 replace B1:BJ Tryz.prog Amb 95 [net FT u v l,.one (.fn 96 [(4,0),(5,0)])] [(4,nmC jt a,nmC jt a),(5,nmC jt b,nmC jt b)] (net FT u v (byR u v (Dv v a b) l)):=B1
 generalize byR u v (Dv v a b) l=q at*
 refine Aj Tryz.func29 rfl rfl rfl rfl rfl rfl ?_
 intro W0 base D μ0 hA hD
 repeat (first|refine Ag ?_|refine Ac ?_|refine Aa rfl ?_|refine Ab rfl ?_|refine Am ?_|refine An ?_|refine Ad ?_|refine Ae ?_)
 refine Ap (And.intro (Or.inr rfl) ?_)
 exact AA
end
section
variable {j jt u v:Nat} {l:List Rat} {t a b:Rat}
theorem Ww {i:Nat} (hu:u≤40) (hv:v≤40) (hl:l.length=(u+1)*(v+1)) (hi:i≤u):
  Ctr Tryz.prog Amb 91 [net j u v l,Ay (i:Nat)] (.one (AH j (A0 v l i))):=by
 have hs:=Dr hu hv
 have h1:=Ia (u:=u) (v:=v) (i:=i) hi
 have h2:(i+1)*(v+1)=i*(v+1)+(v+1):=Nat.succ_mul _ _
 have a1:=AR (a:=v) (by omega)
 have a2:=AR (a:=i) (by omega)
 have m1:=Db (a:=i) (b:=v+1) (by omega)
 have m2:=Db (a:=i+1) (b:=v+1) (by omega)
 have hp1:i*(v+1)≤(i+1)*(v+1):=by omega
 have hp2:(i+1)*(v+1)≤l.length:=by omega
 have hrl:=CL hl hi
 refine Aj Tryz.func91 rfl rfl rfl rfl rfl rfl ?_
 intro W0 base D μ0 hA hD
 repeat (first|refine Ag ?_|refine Ac ?_|refine Aa rfl ?_|refine Ab rfl ?_|refine Am ?_|refine An ?_|refine Ad ?_|refine Ae ?_)
 try refine Ag ?_
 refine DS 15 (by simp only [List.take_succ_cons,List.take_zero,List.drop_succ_cons,List.drop_zero];exact ⟨rfl,rfl⟩) (by kernel_rfl) ?_
 repeat (first
  | refine FY (hl:=?_)
  | refine AK (hl:=?_)
  | refine As (hl:=?_)
  | refine BB (hl:=?_)
  | refine AB (hl:=?_)
  | refine Fb (hl:=?_)
  | refine BN (hl:=?_)
  | refine B7 (hl:=?_)
  | refine B6 (hl:=?_)
  | refine B8 (hl:=?_)
  | refine AY (hl:=?_)
  | refine BI (hl:=?_)
  | refine BD (hl:=?_)
  | refine Df hA (hc:=OLD) (hl:=?_)
  | refine H7 (la:=l) (f:=nmD j) (a:=i*(v+1)) (b:=(i+1)*(v+1)) hp1 hp2 (.some rfl rfl) (.some rfl rfl) (hl:=?_))
 apply Ah.nil
 obtain ⟨p,hp⟩: ∃p,p=A0 v l i:=⟨_,rfl⟩
 have hp':(l.take ((i+1)*(v+1))).drop (i*(v+1))=p:=hp.symm
 rw [←hp] at hrl
 rw [hp',←hp]
 refine FP (la:=([]:List Rat)) (f:=nmD j) (k:=5) (ss:= []) (bs:= []) (ns:=Ao (nmD j) p) (hns:=Hs inferInstance _ p) hD ?_ ?_ ?_
 ·exact ⟨by simp;omega,by simp;omega⟩
 ·exact BF
 repeat (refine Dy rfl ?_;(first|refine As (hl:=?_)|refine AK (hl:=?_));apply Ah.nil)
 refine DH ?_
 refine A8 (ss:= [(4,.one (.gl 5 p.length 3))]) (bs:= [(5,Ao (nmD j) p)]) ?_ ?_
 ·refine Cu ?_ ?_ rfl
  ·repeat (first|exact Ak|(refine List.forall_mem_cons.2 ⟨?_,?_⟩;focus (first|exact Ent.of_eq rfl|(refine Ent.one' rfl ?_;(first|exact Iu|(refine Af.glLen ?_;simp)|exact Gh))|(refine Ent.agg' rfl ?_;(repeat (first|exact EntL.nil' rfl|(refine EntL.cons' rfl ?_ ?_;focus (first|exact Iu|(refine Af.glLen ?_;simp)|exact Gh))));done))))
  ·repeat (first|exact Ak|(refine List.forall_mem_cons.2 ⟨?_,?_⟩;focus (first|exact AN inferInstance|(exact Fv (la:= []) inferInstance)|(refine AG rfl ?_ rfl;focus ((repeat (first|exact EntL.nil' rfl|(refine EntL.cons' rfl ?_ ?_;focus (first|exact Iu|(refine Af.glLen ?_;simp)|exact Gh))));done)))))
 refine A5 5 hD (ss:= [(4,.one (AH j p))]) (bs:= []) ?_ ?_
 ·exact IO
 refine Ap (And.intro (Or.inr rfl) ?_)
 exact AA
theorem W6 {m:Nat} {ls:List (List Rat)} (hl:ls.length=u+1) (hm: ∀p∈ls,p.length=m+1) (hu:u≤40) (hm40:m≤40):
  Ctr Tryz.prog Amb 98 [.one (FH j ls)] (net j u m ls.flatten):=by
 have hs:=Dr hu hm40
 have hfl:ls.flatten.length=(u+1)*(m+1):=by rw [DO hm,hl]
 obtain ⟨p0,hp0,_,hp0m⟩:=Hh (ls:=ls) (i:=0) (by omega)
 replace hp0:ls[(0:Int).toNat]?=some p0:=hp0
 have hp0l:=hm p0 hp0m
 have s0:=Cl (k:= .i64) (show (IntKind.i64).wrap (((ls.length:Nat):Int)-1)=((u:Nat):Int) by rw [show ((ls.length:Nat):Int)-1=((u:Nat):Int) by omega];exact IntWalk.i64_in _ (by omega))
 have s1:=Cl (k:= .i64) (show (IntKind.i64).wrap (((p0.length:Nat):Int)-1)=((m:Nat):Int) by rw [show ((p0.length:Nat):Int)-1=((m:Nat):Int) by omega];exact IntWalk.i64_in _ (by omega))
 refine Aj Tryz.func98 rfl rfl rfl rfl rfl rfl ?_
 intro W0 base D μ0 hA hD
 repeat (first|refine Ag ?_|refine Ac ?_|refine Aa rfl ?_|refine Ab rfl ?_|refine Am ?_|refine An ?_|refine Ad ?_|refine Ae ?_)
 refine AW (fun c σ=> ∃(i:Nat) (done:List Rat),c=u+1-i∧i≤u+1∧done=(ls.take i).flatten∧Wk ⟨W0,base,D,29,[],μ0⟩ σ [(0,.one (FH j ls)),(2,.one (.ptr 2 0)),(3,.one (.ptr 3 0)),(4,Ay (i:Nat))] [(2,D8),(3,[.v (.int .i64 (u:Nat)),.v (.int .i64 (m:Nat)),.gl 900 done.length 3]),(900,Ao (nmD j) done)]) (n:=u+1) ⟨0,[],by omega,by omega,rfl,?_⟩ ?_
 ·exact BF
 clear s0 s1
 intro c σ hI
 obtain ⟨i,done,hc,hi0,hdone,hw⟩:=hI
 refine A8 hw ?_
 clear hw
 by_cases hi:i<u+1
 ·have bi:=AS (k:= .i64) (decide_eq_true (show ((i:Nat):Int)<((ls.length:Nat):Int) by omega))
  have hin:=AR (a:=i) (by omega)
  obtain ⟨p,hp,hp',hpm⟩:=Hh (ls:=ls) (i:=i) (by omega)
  have hpl:=hm p hpm
  have hd':done++p=(ls.take (i+1)).flatten:=by rw [KM hp',hdone]
  have hdl:done.length≤1681:=by
   have h1:done.length=(ls.take i).length*(m+1):=by rw [hdone];exact DO fun q hq=>hm q (List.mem_of_mem_take hq)
   have h2:(ls.take i).length*(m+1)≤(u+1)*(m+1):=Nat.mul_le_mul_right _ (by rw [List.length_take];omega)
   omega
  clear hdone
  repeat (first|refine Ag ?_|refine Ac ?_|refine Aa rfl ?_|refine Ab rfl ?_|refine Am ?_|refine An ?_|refine Ad ?_|refine Ae ?_)
  try refine Ag ?_
  refine Fw 6 (by simp only [List.take_succ_cons,List.take_zero,List.drop_succ_cons,List.drop_zero];exact ⟨rfl,rfl⟩) (by kernel_rfl) (by kernel_rfl) (by kernel_rfl) (by kernel_rfl) (by kernel_rfl) ?_
  repeat (first
   | refine AK (hl:=?_)
   | refine As (hl:=?_)
   | refine BB (hl:=?_)
   | refine AB (hl:=?_)
   | refine AO (hl:=?_)
   | refine BP (hl:=?_)
   | refine BL (hl:=?_)
   | refine BM (hl:=?_)
   | refine BN (hl:=?_)
   | refine AT (hl:=?_)
   | refine B7 (hl:=?_)
   | refine B6 (hl:=?_)
   | refine B8 (hl:=?_)
   | refine Dp (hl:=?_)
   | refine AY (hl:=?_)
   | refine BI (hl:=?_)
   | refine Df hA (hc:=OLD) (hl:=?_)
   | refine FO hp (by omega) (hl:=?_))
  apply Ah.nil
  refine And.intro (by kernel_rfl) ?_
  refine FP (k:=900) (la:=done) (f:=nmD j) (ss:= [(0,.one (FH j ls)),(2,.one (.ptr 2 0)),(3,.one (.ptr 3 0)),(4,Ay (i:Nat))]) (bs:= [(2,D8),(3,[.v (.int .i64 (u:Nat)),.v (.int .i64 (m:Nat)),.ny])]) (ns:=Ao (nmD j) p) (hns:=Hs inferInstance _ p) hD ?_ ?_ ?_
  ·exact ⟨by omega,by omega⟩
  ·refine Cu ?_ ?_ rfl
   ·repeat (first|exact Ak|refine List.forall_mem_cons.2 ⟨Ent.of_eq rfl,?_⟩)
   ·exact List.forall_mem_cons.2 ⟨AG rfl (EntL.of_eq rfl) rfl,List.forall_mem_cons.2 ⟨AG rfl (.cons Af.same (.cons Af.same (.cons (Af.ny rfl) .nil))) rfl,Ak⟩⟩
  repeat (refine Dy rfl ?_;(first|refine As (hl:=?_)|refine AK (hl:=?_)|refine AB (hl:=?_)|refine AO (hl:=?_));apply Ah.nil)
  refine DH ?_
  obtain ⟨dn,hdn⟩: ∃dn,dn=done++p:=⟨_,rfl⟩
  have hdnl:done.length+p.length=dn.length:=by rw [hdn,List.length_append]
  refine A8 (ss:= [(0,.one (FH j ls)),(2,.one (.ptr 2 0)),(3,.one (.ptr 3 0)),(4,Ay (i:Nat))]) (bs:= [(2,D8),(3,[.v (.int .i64 (u:Nat)),.v (.int .i64 (m:Nat)),.gl 900 dn.length 3]),(900,Ao (nmD j) dn)]) ?_ ?_
  ·rw [hdn]
   refine Cu ?_ ?_ rfl
   ·repeat (first|exact Ak|refine List.forall_mem_cons.2 ⟨Ent.of_eq rfl,?_⟩)
   ·exact List.forall_mem_cons.2 ⟨AG rfl (EntL.of_eq rfl) rfl,List.forall_mem_cons.2 ⟨AG rfl (.cons Af.same (.cons Af.same (.cons (Af.glLen (by rw [List.length_append])) .nil))) rfl,List.forall_mem_cons.2 ⟨Fv inferInstance,Ak⟩⟩⟩
  repeat (first|refine Ag ?_|refine Ac ?_|refine Aa rfl ?_|refine Ab rfl ?_|refine Am ?_|refine An ?_|refine Ad ?_|refine Ae ?_)
  refine ⟨c-1,by omega,i+1,dn,by omega,by omega,by rw [hdn,hd'],?_⟩
  exact BF
 ·obtain rfl:i=u+1:=by omega
  have bi:=AS (k:= .i64) (decide_eq_false (show ¬((u+1:Nat):Int)<((ls.length:Nat):Int) by omega))
  have he:done=ls.flatten:=by rw [hdone,←hl,List.take_length]
  rw [←he]
  repeat (first|refine Ag ?_|refine Ac ?_|refine Aa rfl ?_|refine Ab rfl ?_|refine Am ?_|refine An ?_|refine Ad ?_|refine Ae ?_)
  refine A5 900 hD (ss:= [(2,.one (.ptr 2 0))]) (bs:= [(2,[.v (.int .i64 (u:Nat)),.v (.int .i64 (m:Nat)),AH j done])]) ?_ ?_
  ·exact Gg (List.forall_mem_cons.2 ⟨FzA.ent (Ent.of_eq rfl),Ak⟩) (List.forall_mem_cons.2 ⟨De.net,Ak⟩) rfl
  refine Ap (And.intro (Or.inr rfl) ?_)
  exact AA
theorem OC (hu:u≤40) (hv:v≤40) (hl:l.length=(u+1)*(v+1)):
  Ctr Tryz.prog Amb 46 [net j u v l] (net j v u (Dq u v l)):=by
 have hs:=Dr hv hu
 have hidx: ∀i q,i≤u→q≤v→i*(v+1)+q<l.length:=fun i q h1 h2=>by
  have h3:=Ia (u:=u) (v:=v) (i:=i) h1
  rw [Nat.succ_mul] at h3
  omega
 have hget: ∀i q,i≤u→q≤v→l[((i*(v+1)+q:Nat):Int).toNat]?=some (GL u v l (q*(u+1)+i)):=fun i q h1 h2=>by
  rw [Int.toNat_natCast,Oz h1,List.getD_eq_getElem?_getD,Yv (hidx i q h1 h2)]
  rfl
 have hle: ∀i q,i≤u+1→q≤v→q*(u+1)+i≤1681:=fun i q h1 h2=>by
  have h3:(q+1)*(u+1)≤(v+1)*(u+1):=Nat.mul_le_mul_right _ (by omega)
  rw [Nat.succ_mul] at h3
  omega
 have hll: ∀i q,i≤u→q≤v→i*(v+1)+q≤1681:=fun i q h1 h2=>by
  have:=hidx i q h1 h2
  have:=Dr hu hv
  omega
 refine Aj Tryz.func46 rfl rfl rfl rfl rfl rfl ?_
 intro W0 base D μ0 hA hD
 repeat (first|refine Ag ?_|refine Ac ?_|refine Aa rfl ?_|refine Ab rfl ?_|refine Am ?_|refine An ?_|refine Ad ?_|refine Ae ?_)
 refine AW (fun c σ=> ∃(q:Nat) (done:List Rat),c=v+1-q∧q≤v+1∧done=tab (q*(u+1)) (GL u v l)∧Wk ⟨W0,base,D,40,[],μ0⟩ σ [(1,.one (.ptr 1 0)),(2,.one (.ptr 2 0)),(3,.one (.ptr 3 0)),(4,Ay (q:Nat))] [(1,F8 j u v l),(2,D8),(3,[.v (.int .i64 (v:Nat)),.v (.int .i64 (u:Nat)),.gl 900 done.length 3]),(900,Ao (nmD j) done)]) (n:=v+1) ⟨0,[],by omega,by omega,by rw [Nat.zero_mul];rfl,?_⟩ ?_
 ·exact BF
 intro c σ hI
 obtain ⟨q,done,hc,hq0,hdone,hw⟩:=hI
 refine A8 hw ?_
 clear hw
 by_cases hq:q<v+1
 ·have bq:=D4 (k:= .i64) (decide_eq_true (show ((q:Nat):Int)≤((v:Nat):Int) by omega))
  have hqn:=AR (a:=q) (by omega)
  repeat (first|refine Ag ?_|refine Ac ?_|refine Aa rfl ?_|refine Ab rfl ?_|refine Am ?_|refine An ?_|refine Ad ?_|refine Ae ?_)
  refine AW (fun c σ=> ∃(i:Nat) (done:List Rat),c=u+1-i∧i≤u+1∧done=tab (q*(u+1)+i) (GL u v l)∧Wk ⟨W0,base,D,40,[],μ0⟩ σ [(1,.one (.ptr 1 0)),(2,.one (.ptr 2 0)),(3,.one (.ptr 3 0)),(4,Ay (q:Nat)),(5,Ay (i:Nat))] [(1,F8 j u v l),(2,D8),(3,[.v (.int .i64 (v:Nat)),.v (.int .i64 (u:Nat)),.gl 900 done.length 3]),(900,Ao (nmD j) done)]) (n:=u+1) ⟨0,done,by omega,by omega,hdone,?_⟩ ?_
  ·exact BF
  clear hdone done
  intro c2 σ hI
  obtain ⟨i,done,hc2,hi0,hdone,hw⟩:=hI
  refine A8 hw ?_
  clear hw
  have hdl:done.length=q*(u+1)+i:=by rw [hdone];exact BC
  have hdb:=hle i q hi0 (by omega)
  by_cases hi:i<u+1
  ·have bi:=D4 (k:= .i64) (decide_eq_true (show ((i:Nat):Int)≤((u:Nat):Int) by omega))
   have hin:=AR (a:=i) (by omega)
   have hx:=hget i q (by omega) (by omega)
   have hb:=hll i q (by omega) (by omega)
   have a1:=AR (a:=v) (by omega)
   have m1:=Db (a:=i) (b:=v+1) (by omega)
   have a2:=QO (a:=i*(v+1)) (b:=q) (by omega)
   have hd':done++ [GL u v l (q*(u+1)+i)]=tab (q*(u+1)+(i+1)) (GL u v l):=by rw [hdone];exact Fg
   generalize GL u v l (q*(u+1)+i)=x at*
   generalize i*(v+1)+q=at0 at*
   clear hdone
   repeat (first|refine Ag ?_|refine Ac ?_|refine Aa rfl ?_|refine Ab rfl ?_|refine Am ?_|refine An ?_|refine Ad ?_|refine Ae ?_)
   try refine Ag ?_
   refine Fw 14 (by simp only [List.take_succ_cons,List.take_zero,List.drop_succ_cons,List.drop_zero];exact ⟨rfl,rfl⟩) (by kernel_rfl) (by kernel_rfl) (by kernel_rfl) (by kernel_rfl) (by kernel_rfl) ?_
   repeat (first
    | refine AK (hl:=?_)
    | refine As (hl:=?_)
    | refine BB (hl:=?_)
    | refine AB (hl:=?_)
    | refine AO (hl:=?_)
    | refine Fb (hl:=?_)
    | refine BP (hl:=?_)
    | refine BL (hl:=?_)
    | refine BM (hl:=?_)
    | refine BN (hl:=?_)
    | refine AT (hl:=?_)
    | refine B7 (hl:=?_)
    | refine B6 (hl:=?_)
    | refine B8 (hl:=?_)
    | refine AY (hl:=?_)
    | refine BI (hl:=?_)
    | refine BD (hl:=?_)
    | refine Df hA (hc:=OLD) (hl:=?_)
    | refine FO hx (by omega) (hl:=?_))
   apply Ah.nil
   refine And.intro (by kernel_rfl) ?_
   refine FP (k:=900) (la:=done) (f:=nmD j) (ss:= [(1,.one (.ptr 1 0)),(2,.one (.ptr 2 0)),(3,.one (.ptr 3 0)),(4,Ay (q:Nat)),(5,Ay (i:Nat))]) (bs:= [(1,F8 j u v l),(2,D8),(3,[.v (.int .i64 (v:Nat)),.v (.int .i64 (u:Nat)),.ny])]) (ns:=nmC j x) hD ?_ ?_ ?_
   ·exact ⟨by omega,by omega⟩
   ·refine Cu ?_ ?_ rfl
    ·repeat (first|exact Ak|refine List.forall_mem_cons.2 ⟨Ent.of_eq rfl,?_⟩)
    ·exact List.forall_mem_cons.2 ⟨AG rfl (EntL.of_eq rfl) rfl,List.forall_mem_cons.2 ⟨AG rfl (EntL.of_eq rfl) rfl,List.forall_mem_cons.2 ⟨AG rfl (.cons Af.same (.cons Af.same (.cons (Af.ny rfl) .nil))) rfl,Ak⟩⟩⟩
   repeat (refine Dy rfl ?_;(first|refine As (hl:=?_)|refine AK (hl:=?_)|refine AB (hl:=?_)|refine AO (hl:=?_));apply Ah.nil)
   refine DH ?_
   refine A8 (ss:= [(1,.one (.ptr 1 0)),(2,.one (.ptr 2 0)),(3,.one (.ptr 3 0)),(4,Ay (q:Nat)),(5,Ay (i:Nat))]) (bs:= [(1,F8 j u v l),(2,D8),(3,[.v (.int .i64 (v:Nat)),.v (.int .i64 (u:Nat)),.gl 900 (done++ [x]).length 3]),(900,Ao (nmD j) (done++ [x]))]) ?_ ?_
   ·refine Cu ?_ ?_ rfl
    ·repeat (first|exact Ak|refine List.forall_mem_cons.2 ⟨Ent.of_eq rfl,?_⟩)
    ·exact List.forall_mem_cons.2 ⟨AG rfl (EntL.of_eq rfl) rfl,List.forall_mem_cons.2 ⟨AG rfl (EntL.of_eq rfl) rfl,List.forall_mem_cons.2 ⟨AG rfl (.cons Af.same (.cons Af.same (.cons (Af.glLen (by rw [List.length_append];rfl)) .nil))) rfl,List.forall_mem_cons.2 ⟨Mm inferInstance (EntL.of_eq rfl),Ak⟩⟩⟩⟩
   repeat (first|refine Ag ?_|refine Ac ?_|refine Aa rfl ?_|refine Ab rfl ?_|refine Am ?_|refine An ?_|refine Ad ?_|refine Ae ?_)
   refine ⟨c2-1,by omega,i+1,done++ [x],by omega,by omega,hd',?_⟩
   exact BF
  ·obtain rfl:i=u+1:=by omega
   have bi:=D4 (k:= .i64) (decide_eq_false (show ¬((u+1:Nat):Int)≤((u:Nat):Int) by omega))
   have hd':done=tab ((q+1)*(u+1)) (GL u v l):=by rw [hdone,Nat.succ_mul]
   repeat (first|refine Ag ?_|refine Ac ?_|refine Aa rfl ?_|refine Ab rfl ?_|refine Am ?_|refine An ?_|refine Ad ?_|refine Ae ?_)
   refine ⟨c-1,by omega,q+1,done,by omega,by omega,hd',?_⟩
   exact BF
 ·obtain rfl:q=v+1:=by omega
  have bq:=D4 (k:= .i64) (decide_eq_false (show ¬((v+1:Nat):Int)≤((v:Nat):Int) by omega))
  have he:done=Dq u v l:=hdone
  rw [←he]
  repeat (first|refine Ag ?_|refine Ac ?_|refine Aa rfl ?_|refine Ab rfl ?_|refine Am ?_|refine An ?_|refine Ad ?_|refine Ae ?_)
  refine A5 900 hD (ss:= [(2,.one (.ptr 2 0))]) (bs:= [(2,[.v (.int .i64 (v:Nat)),.v (.int .i64 (u:Nat)),AH j done])]) ?_ ?_
  ·exact Gg (List.forall_mem_cons.2 ⟨FzA.ent (Ent.of_eq rfl),Ak⟩) (List.forall_mem_cons.2 ⟨De.net,Ak⟩) rfl
  refine Ap (And.intro (Or.inr rfl) ?_)
  exact AA
end
end Go.Proofs.YtfineedhebhpaaaGreatDoor
