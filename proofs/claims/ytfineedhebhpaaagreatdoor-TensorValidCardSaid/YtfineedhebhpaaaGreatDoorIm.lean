/-
  Several texts in one: Zfg, Zfh.
-/
import Derived.Test.YtfineedhebhpaaaGreatDoorIl
import Derived.Test.YtfineedhebhpaaaGreatDoorHt
namespace Go.Proofs.YtfineedhebhpaaaGreatDoor
open Go.RowKit
set_option linter.unusedVariables false
set_option linter.unusedSimpArgs false
set_option maxRecDepth 20000
set_option maxHeartbeats 4000000
section
variable {j jt u v:Nat} {l:List Rat} {t a b:Rat}
theorem Jj {J:Nat} (hu:u≤40) (hv:v≤40) (hl:l.length=(u+1)*(v+1)) (hjJ:j≤J) (hjt:jt≤1000000) (hr: ∀r∈l,RSz j r) (ht:RSz jt t) (hJ:2+(v+1)*j+j+(v*(jt+1)+1)≤J) (hJ2:J≤1000000):
  Ctr Tryz.prog Amb 25 [net j u v l,nm jt t] (.one (AH J (EB u v l t))):=by
 have R1: ∀i,i≤u→Ctr Tryz.prog Amb 91 [net j u v l,Ay (i:Nat)] (.one (AH j (A0 v l i))):=fun i hi=>Ww hu hv hl hi
 have E1: ∀i,i≤u→Ctr Tryz.prog Amb 53 [.one (AH j (A0 v l i)),nm jt t] (nm J (CB t (cf (A0 v l i)) v)):=fun i hi=>SY (CL hl hi) (by omega) hjJ hJ2 hjt (G8 (CL hl hi) (fun r h=>hr r (Ep h)) ht hJ)
 clear hr ht hJ
 obtain ⟨S,hS⟩: ∃S,S=EB u v l t:=⟨_,rfl⟩
 unfold EB at hS
 rw [show EB u v l t=S by rw [hS];rfl]
 refine Aj Tryz.func25 rfl rfl rfl rfl rfl rfl ?_
 intro W0 base D μ0 hA hD
 repeat (first|refine Ag ?_|refine Ac ?_|refine Aa rfl ?_|refine Ab rfl ?_|refine Am ?_|refine An ?_|refine Ad ?_|refine Ae ?_)
 refine AW (fun c σ=> ∃(i:Nat) (done:List Rat),c=u+1-i∧i≤u+1∧done=tab i (fun q=>CB t (cf (A0 v l q)) v)∧Wk ⟨W0,base,D,22,[],μ0⟩ σ [(2,.one (.ptr 2 0)),(3,.one (.ptr 3 0)),(5,.one (.gl 900 done.length 3)),(6,Ay (i:Nat))] [(2,F8 j u v l),(3,nmC jt t),(900,Ao (nmD J) done)]) (n:=u+1) ⟨0,[],by omega,by omega,rfl,?_⟩ ?_
 ·exact BF
 intro c σ hI
 obtain ⟨i,done,hc,hi0,hdone,hw⟩:=hI
 refine A8 hw ?_
 clear hw
 have hdl:done.length=i:=by rw [hdone];exact BC
 by_cases hi:i<u+1
 ·have bi:=D4 (k:= .i64) (decide_eq_true (show ((i:Nat):Int)≤((u:Nat):Int) by omega))
  have hin:=AR (a:=i) (by omega)
  have H0:=R1 i (by omega)
  have H1:=E1 i (by omega)
  have hd':done++ [CB t (cf (A0 v l i)) v]=tab (i+1) (fun q=>CB t (cf (A0 v l q)) v):=by rw [hdone];exact Fg
  clear hdone E1 R1
  generalize CB t (cf (A0 v l i)) v=y at*
  generalize A0 v l i=row at*
  repeat (first|refine Ag ?_|refine Ac ?_|refine Aa rfl ?_|refine Ab rfl ?_|refine Am ?_|refine An ?_|refine Ad ?_|refine Ae ?_)
  try refine Ag ?_
  refine Fw 7 (by simp only [List.take_succ_cons,List.take_zero,List.drop_succ_cons,List.drop_zero];exact ⟨rfl,rfl⟩) (by kernel_rfl) (by kernel_rfl) (by kernel_rfl) (by kernel_rfl) (by kernel_rfl) ?_
  repeat (first
   | refine AK (hl:=?_)
   | refine As (hl:=?_)
   | refine BB (hl:=?_)
   | refine AB (hl:=?_)
   | refine Fb (hl:=?_)
   | refine BN (hl:=?_)
   | refine B7 (hl:=?_)
   | refine B6 (hl:=?_)
   | refine B8 (hl:=?_)
   | refine AY (hl:=?_)
   | refine BI (hl:=?_)
   | refine BD (hl:=?_)
   | refine AD hA (hc:=H0) (hl:=?_)
   | refine AD hA (hc:=H1) (hl:=?_))
  apply Ah.nil
  refine And.intro (by kernel_rfl) ?_
  refine FP (k:=900) (ss:= [(2,.one (.ptr 2 0)),(3,.one (.ptr 3 0)),(6,Ay (i:Nat))]) (bs:= [(2,F8 j u v l),(3,nmC jt t)]) (ns:=(nmC J y)) hD ?_ ?_ ?_
  ·exact ⟨by omega,by omega⟩
  ·exact BF
  repeat (refine Dy rfl ?_;(first|refine As (hl:=?_)|refine AK (hl:=?_)|refine AO (hl:=?_));apply Ah.nil)
  refine DH ?_
  repeat (first|refine Ag ?_|refine Ac ?_|refine Aa rfl ?_|refine Ab rfl ?_|refine Am ?_|refine An ?_|refine Ad ?_|refine Ae ?_)
  refine ⟨c-1,by omega,i+1,done++ [y],by omega,by omega,hd',?_⟩
  exact BF
 ·obtain rfl:i=u+1:=by omega
  have bi:=D4 (k:= .i64) (decide_eq_false (show ¬((u+1:Nat):Int)≤((u:Nat):Int) by omega))
  rw [←hS] at hdone
  subst hdone
  repeat (first|refine Ag ?_|refine Ac ?_|refine Aa rfl ?_|refine Ab rfl ?_|refine Am ?_|refine An ?_|refine Ad ?_|refine Ae ?_)
  refine A5 900 hD (ss:= [(4,.one (AH J done))]) (bs:= []) ?_ ?_
  ·exact IO
  refine Ap (And.intro (Or.inr rfl) ?_)
  exact AA
theorem W7 {J:Nat} (hu:u≤40) (hv:v≤40) (hl:l.length=(u+1)*(v+1)) (hjJ:j≤J) (hjt:jt≤1000000) (hr: ∀r∈l,RSz j r) (ht:RSz jt t) (hJ:2+(u+1)*j+j+(u*(jt+1)+1)≤J) (hJ2:J≤1000000):
  Ctr Tryz.prog Amb 23 [net j u v l,nm jt t] (.one (AH J (EB v u (Dq u v l) t))):=by
 have T1:=OC (j:=j) hu hv hl
 have C1:=Jj (j:=j) (jt:=jt) (u:=v) (v:=u) (l:=Dq u v l) (t:=t) hv hu Cv hjJ hjt (fun r h=>hr r (Fe hl h)) ht hJ hJ2
 refine Aj Tryz.func23 rfl rfl rfl rfl rfl rfl ?_
 intro W0 base D μ0 hA hD
 repeat (first|refine Ag ?_|refine Ac ?_|refine Aa rfl ?_|refine Ab rfl ?_|refine Am ?_|refine An ?_|refine Ad ?_|refine Ae ?_)
 refine Ap (And.intro (Or.inr rfl) ?_)
 exact AA
theorem Vr {js ju J:Nat} (hu:u≤40) (hv:v≤40) (hl:l.length=(u+1)*(v+1)) (hjJ:j≤js) (hjt:jt≤1000000) (hju:ju≤1000000) (hr: ∀r∈l,RSz j r) (ha:RSz ju a) (hb:RSz jt b) (hJ:2+(v+1)*j+j+(v*(jt+1)+1)≤js) (hJ2:2+(u+1)*js+js+(u*(ju+1)+1)≤J) (hJ3:js≤J) (hJ4:J≤1000000):
  Ctr Tryz.prog Amb 20 [net j u v l,nm ju a,nm jt b] (nm J (evR u v l a b)):=by
 have R1:=Jj (j:=j) (jt:=jt) (t:=b) hu hv hl hjJ hjt hr hb hJ (by omega)
 have hcs:=J8 (t:=b) hl hr hb hJ
 have E1:=SY (j:=js) (jt:=ju) (N:=u) (J:=J) (l:=EB u v l b) (t:=a) Gj (by omega) hJ3 hJ4 hju (G8 Gj hcs ha hJ2)
 rw [←V6 hl] at E1
 generalize EB u v l b=L at*
 refine Aj Tryz.func20 rfl rfl rfl rfl rfl rfl ?_
 intro W0 base D μ0 hA hD
 repeat (first|refine Ag ?_|refine Ac ?_|refine Aa rfl ?_|refine Ab rfl ?_|refine Am ?_|refine An ?_|refine Ad ?_|refine Ae ?_)
 refine Ap (And.intro (Or.inr rfl) ?_)
 exact AA
theorem MR (hu:u≤40) (hv:v≤40) (hl:l.length=(u+1)*(v+1)) (hj:j≤100) (hjt:jt≤90) (hr: ∀r∈l,RSz j r) (ha:RSz jt a) (hb:RSz jt b):
  Ctr Tryz.prog Amb 30 [net j u v l,nm jt a,nm jt b] (net 100000 u v (byR u v (Dv v a b) l)):=by
 have R1: ∀i,i≤u→Ctr Tryz.prog Amb 91 [net j u v l,Ay (i:Nat)] (.one (AH j (A0 v l i))):=fun i hi=>Ww hu hv hl hi
 have P1: ∀i,i≤u→Ctr Tryz.prog Amb 97 [.one (AH j (A0 v l i)),nm jt a,nm jt b] (.one (AH 100000 (Dv v a b (A0 v l i)))):=fun i hi=>W8 (CL hl hi) hv hj hjt (fun r h=>hr r (Ep h)) ha hb rfl
 obtain ⟨hk1,hk2⟩:=FF (u:=u) (v:=v) (l:=l) (F:=Dv v a b) (m:=v) (fun _ _=>F7)
 have J1:=W6 (j:=100000) hk1 hk2 hu hv
 have hend:(Cd u v l).map (Dv v a b)=tab (u+1) fun q=>Dv v a b (A0 v l q):=by show (tab (u+1) (A0 v l)).map _=_;rw [Ls]
 unfold byR
 clear hr ha hb
 generalize (Cd u v l).map (Dv v a b)=LS at*
 refine Aj Tryz.func30 rfl rfl rfl rfl rfl rfl ?_
 intro W0 base D μ0 hA hD
 repeat (first|refine Ag ?_|refine Ac ?_|refine Aa rfl ?_|refine Ab rfl ?_|refine Am ?_|refine An ?_|refine Ad ?_|refine Ae ?_)
 refine AW (fun c σ=> ∃(i:Nat) (done:List (List Rat)),c=u+1-i∧i≤u+1∧done=tab i (fun q=>Dv v a b (A0 v l q))∧Wk ⟨W0,base,D,26,[],μ0⟩ σ [(3,.one (.ptr 3 0)),(4,.one (.ptr 4 0)),(5,.one (.ptr 5 0)),(6,.one (.ptr 6 0)),(7,.one (.gl 900 done.length 1)),(8,Ay (i:Nat))] [(3,F8 j u v l),(4,nmC jt a),(5,nmC jt b),(6,D8),(900,Ao (FI 100000) done)]) (n:=u+1) ⟨0,[],by omega,by omega,rfl,?_⟩ ?_
 ·exact BF
 intro c σ hI
 obtain ⟨i,done,hc,hi0,hdone,hw⟩:=hI
 refine A8 hw ?_
 clear hw
 have hdl:done.length=i:=by rw [hdone];exact BC
 by_cases hi:i<u+1
 ·have bi:=D4 (k:= .i64) (decide_eq_true (show ((i:Nat):Int)≤((u:Nat):Int) by omega))
  have hin:=AR (a:=i) (by omega)
  have H0:=R1 i (by omega)
  have H1:=P1 i (by omega)
  have hd':done++ [Dv v a b (A0 v l i)]=tab (i+1) (fun q=>Dv v a b (A0 v l q)):=by rw [hdone];exact Fg
  clear hdone P1 R1
  generalize Dv v a b (A0 v l i)=y at*
  generalize A0 v l i=row at*
  repeat (first|refine Ag ?_|refine Ac ?_|refine Aa rfl ?_|refine Ab rfl ?_|refine Am ?_|refine An ?_|refine Ad ?_|refine Ae ?_)
  try refine Ag ?_
  refine Fw 8 (by simp only [List.take_succ_cons,List.take_zero,List.drop_succ_cons,List.drop_zero];exact ⟨rfl,rfl⟩) (by kernel_rfl) (by kernel_rfl) (by kernel_rfl) (by kernel_rfl) (by kernel_rfl) ?_
  repeat (first
   | refine AK (hl:=?_)
   | refine As (hl:=?_)
   | refine BB (hl:=?_)
   | refine AB (hl:=?_)
   | refine AO (hl:=?_)
   | refine Fb (hl:=?_)
   | refine BP (hl:=?_)
   | refine BN (hl:=?_)
   | refine B7 (hl:=?_)
   | refine B6 (hl:=?_)
   | refine B8 (hl:=?_)
   | refine AY (hl:=?_)
   | refine BI (hl:=?_)
   | refine BD (hl:=?_)
   | refine AD hA (hc:=H0) (hl:=?_)
   | refine AD hA (hc:=H1) (hl:=?_))
  apply Ah.nil
  refine And.intro (by kernel_rfl) ?_
  refine FP (k:=900) (ss:= [(3,.one (.ptr 3 0)),(4,.one (.ptr 4 0)),(5,.one (.ptr 5 0)),(6,.one (.ptr 6 0)),(8,Ay (i:Nat))]) (bs:= [(3,F8 j u v l),(4,nmC jt a),(5,nmC jt b),(6,D8)]) (ns:= [AH 100000 y]) hD ?_ ?_ ?_
  ·exact ⟨by omega,by omega⟩
  ·exact BF
  repeat (refine Dy rfl ?_;(first|refine As (hl:=?_)|refine AK (hl:=?_)|refine AO (hl:=?_));apply Ah.nil)
  refine DH ?_
  repeat (first|refine Ag ?_|refine Ac ?_|refine Aa rfl ?_|refine Ab rfl ?_|refine Am ?_|refine An ?_|refine Ad ?_|refine Ae ?_)
  refine ⟨c-1,by omega,i+1,done++ [y],by omega,by omega,hd',?_⟩
  exact BF
 ·obtain rfl:i=u+1:=by omega
  have bi:=D4 (k:= .i64) (decide_eq_false (show ¬((u+1:Nat):Int)≤((u:Nat):Int) by omega))
  rw [←hend] at hdone
  subst hdone
  repeat (first|refine Ag ?_|refine Ac ?_|refine Aa rfl ?_|refine Ab rfl ?_|refine Am ?_|refine An ?_|refine Ad ?_|refine Ae ?_)
  refine A5 900 hD (ss:= [(6,.one (.ptr 6 0)),(7,.one (FH 100000 done))]) (bs:= [(6,D8)]) ?_ ?_
  ·exact IO
  repeat (first|refine Ag ?_|refine Ac ?_|refine Aa rfl ?_|refine Ab rfl ?_|refine Am ?_|refine An ?_|refine Ad ?_|refine Ae ?_)
  refine Ap (And.intro (Or.inr rfl) ?_)
  exact AA
theorem SW (hu:u≤40) (hv:v≤40) (hl:l.length=(u+1)*(v+1)) (hj:j≤100) (hjt:jt≤90) (hr: ∀r∈l,RSz j r) (ha:RSz jt a) (hb:RSz jt b):
  Ctr Tryz.prog Amb 28 [net j u v l,nm jt a,nm jt b] (net 100000 u v (byC u v u (Dv u a b) l)):=by
 have T1:=OC (j:=j) hu hv hl
 have P1:=MR (j:=j) (jt:=jt) (u:=v) (v:=u) (l:=Dq u v l) (a:=a) (b:=b) hv hu Cv hj hjt (fun r h=>hr r (Fe hl h)) ha hb
 have T2:=OC (j:=100000) (u:=v) (v:=u) (l:=byR v u (Dv u a b) (Dq u v l)) hv hu (I4 Cv fun _ _=>F7)
 unfold byC
 refine Aj Tryz.func28 rfl rfl rfl rfl rfl rfl ?_
 intro W0 base D μ0 hA hD
 repeat (first|refine Ag ?_|refine Ac ?_|refine Aa rfl ?_|refine Ab rfl ?_|refine Am ?_|refine An ?_|refine Ad ?_|refine Ae ?_)
 refine Ap (And.intro (Or.inr rfl) ?_)
 exact AA
theorem P8 {k:Nat} (hl:l.length≤1000000000):Ctr Tryz.prog Amb 26 [net j u v l,net k u v l] (.one (.v (.bool true))):=by
 have S1:Ctr Tryz.prog Amb 21 [.one (AH j l),.one (AH k l)] (.one (.v (.bool true))):=by
  have:=Ji (j:=j) (k:=k) (l:=l) (m:=l) hl hl
  rwa [decide_eq_true rfl] at this
 have b1:=FS (k:= .i64) (decide_eq_true (rfl:((u:Nat):Int)=((u:Nat):Int)))
 have b2:=FS (k:= .i64) (decide_eq_true (rfl:((v:Nat):Int)=((v:Nat):Int)))
 refine Aj Tryz.func26 rfl rfl rfl rfl rfl rfl ?_
 intro W0 base D μ0 hA hD
 repeat (first|refine Ag ?_|refine Ac ?_|refine Aa rfl ?_|refine Ab rfl ?_|refine Am ?_|refine An ?_|refine Ad ?_|refine Ae ?_)
 refine Ap (And.intro (Or.inr rfl) ?_)
 exact AA
end
def JK (l:List Int) (U n:Nat):Nat:=(nxt l n (U+1:Nat)).1.toNat
def JJ (l:List Int) (U V n:Nat):Nat:=(nxt l (nxt l n (U+1:Nat)).2 (V+1:Nat)).1.toNat
def IN (l:List Int) (U V n:Nat):List Rat×Nat:=Ny l ((JK l U n+1)*(JJ l U V n+1)) ([],(nxt l (nxt l n (U+1:Nat)).2 (V+1:Nat)).2)
theorem L4 (l:List Int) (U n:Nat):JK l U n≤U:=by
 obtain ⟨a1,a2,_⟩:=D5 l n (m:=((U+1:Nat):Int)) (by omega)
 unfold JK
 omega
theorem L3 (l:List Int) (U V n:Nat):JJ l U V n≤V:=by
 obtain ⟨a1,a2,_⟩:=D5 l (nxt l n (U+1:Nat)).2 (m:=((V+1:Nat):Int)) (by omega)
 unfold JJ
 omega
theorem NE (l:List Int) (U V n:Nat):(IN l U V n).1.length=(JK l U n+1)*(JJ l U V n+1):=by
 unfold IN
 rw [Nx]
 simp
theorem T7 (l:List Int) (U V n:Nat): ∀r∈(IN l U V n).1,RSz 2 r:=Nw fun r hr=>by cases hr
theorem Xt {l:List Int} {n U V:Nat} (hb: ∀x∈l,-9223372036854775808≤x∧x<9223372036854775808) (hl:l.length≤1000000) (hn:n≤l.length) (hU:U≤40) (hV:V≤40):
  BJ Tryz.prog Amb 14 [.one (.ptr 901 0),Ay (U:Nat),Ay (V:Nat)] [(901,D0 l n,D0 l (IN l U V n).2)] (net 2 (JK l U n) (JJ l U V n) (IN l U V n).1):=by
 obtain ⟨a1,a2,a3⟩:=D5 l n (m:=((U+1:Nat):Int)) (by omega)
 have g1:=a3 hn
 have N1:=J5 (k:=901) (n:=n) (m:=((U+1:Nat):Int)) hb hl hn (by omega) (by omega)
 have hu:=L4 l U n
 have hv:=L3 l U V n
 have e1:(nxt l n (U+1:Nat)).1=((JK l U n:Nat):Int):=by unfold JK;omega
 rw [e1] at N1
 unfold IN
 obtain ⟨b1,b2,b3⟩:=D5 l (nxt l n (U+1:Nat)).2 (m:=((V+1:Nat):Int)) (by omega)
 have g2:=b3 g1
 have e2:(nxt l (nxt l n (U+1:Nat)).2 (V+1:Nat)).1=((JJ l U V n:Nat):Int):=by unfold JJ;omega
 have N2:=J5 (k:=901) (n:=(nxt l n (U+1:Nat)).2) (m:=((V+1:Nat):Int)) hb hl g1 (by omega) (by omega)
 rw [e2] at N2
 have s1:=AR (a:=U) (by omega)
 have s2:=AR (a:=V) (by omega)
 generalize JK l U n=u at*
 generalize JJ l U V n=v at*
 generalize (nxt l (nxt l n (U+1:Nat)).2 (V+1:Nat)).2=n2 at*
 generalize (nxt l n (U+1:Nat)).2=n1 at*
 have hs:=Dr (u:=u) (v:=v) (by omega) (by omega)
 have s3:=AR (a:=u) (by omega)
 have s4:=AR (a:=v) (by omega)
 have m1:=Db (a:=u+1) (b:=v+1) (by omega)
 obtain ⟨N,hN⟩: ∃N,N=(u+1)*(v+1):=⟨_,rfl⟩
 rw [←hN] at hs m1
 rw [←hN]
 obtain ⟨S,hS⟩: ∃S,S=Ny l N ([],n2):=⟨_,rfl⟩
 rw [←hS]
 clear a1 a2 a3 b1 b2 b3 e1 e2 hN
 apply Aj Tryz.func14 rfl rfl rfl rfl rfl
 case hin=>simp [inA,inC]
 intro W0 base D μ0 hA hD
 repeat (first|refine Ag ?_|refine Ac ?_|refine Aa rfl ?_|refine Ab rfl ?_|refine Am ?_|refine An ?_|refine Ad ?_|refine Ae ?_)
 refine AW (fun m σ=> ∃(i:Nat) (done:List Rat) (ps:Nat),m=N-i∧i≤N∧done.length=i∧Ny l (N-i) (done,ps)=S∧ps≤l.length∧Wk ⟨W0,base,D,37,[901],μ0⟩ σ [(0,.one (.ptr 901 0)),(6,.one (.ptr 6 0)),(7,.one (.ptr 7 0)),(8,Ay (i:Nat))] [(6,D8),(7,[.v (.int .i64 (u:Nat)),.v (.int .i64 (v:Nat)),.gl 900 done.length 3]),(900,Ao (nmD 2) done),(901,D0 l ps)]) (n:=N) ⟨0,[],n2,by omega,by omega,rfl,hS.symm,g2,?_⟩ ?_
 ·exact BF
 clear N1 N2 hS s1 s2
 intro m σ hI
 obtain ⟨i,done,ps,hm,hi0,hdl,hS,hps,hw⟩:=hI
 refine A8 hw ?_
 clear hw
 by_cases hi:i<N
 ·have bi:=AS (k:= .i64) (decide_eq_true (show ((i:Nat):Int)<((N:Nat):Int) by omega))
  have hin:=AR (a:=i) (by omega)
  rw [show N-i=(N-(i+1))+1 by omega] at hS
  have hstep:Ny l (N-(i+1)) (done++ [(GS l ps).1],(GS l ps).2)=S:=hS
  have X1:=UJ (k:=901) (n:=ps) hb hl hps
  have hp2:=VQ l ps hps
  generalize (GS l ps).1=x at*
  generalize (GS l ps).2=ps' at*
  repeat (first|refine Ag ?_|refine Ac ?_|refine Aa rfl ?_|refine Ab rfl ?_|refine Am ?_|refine An ?_|refine Ad ?_|refine Ae ?_)
  try refine Ag ?_
  refine Fw 5 (by simp only [List.take_succ_cons,List.take_zero,List.drop_succ_cons,List.drop_zero];exact ⟨rfl,rfl⟩) (by kernel_rfl) (by kernel_rfl) (by kernel_rfl) (by kernel_rfl) (by kernel_rfl) ?_
  repeat (first
   | refine AK (hl:=?_)
   | refine As (hl:=?_)
   | refine BB (hl:=?_)
   | refine AB (hl:=?_)
   | refine AO (hl:=?_)
   | refine BP (hl:=?_)
   | refine BL (hl:=?_)
   | refine BM (hl:=?_)
   | refine BN (hl:=?_)
   | refine B7 (hl:=?_)
   | refine B6 (hl:=?_)
   | refine B8 (hl:=?_)
   | refine AY (hl:=?_)
   | refine BI (hl:=?_)
   | refine BD (hl:=?_)
   | refine Df hA (hc:=OLD) (hl:=?_)
   | refine EI hA (hc:=X1) (hl:=?_))
  apply Ah.nil
  refine And.intro (by kernel_rfl) ?_
  refine FP (k:=900) (la:=done) (f:=nmD 2) (ss:= [(0,.one (.ptr 901 0)),(6,.one (.ptr 6 0)),(7,.one (.ptr 7 0)),(8,Ay (i:Nat))]) (bs:= [(6,D8),(7,[.v (.int .i64 (u:Nat)),.v (.int .i64 (v:Nat)),.ny]),(901,D0 l ps')]) (ns:=nmC 2 x) hD ?_ ?_ ?_
  ·exact ⟨by omega,by omega⟩
  ·refine Cu ?_ ?_ rfl
   ·repeat (first|exact Ak|refine List.forall_mem_cons.2 ⟨Ent.of_eq rfl,?_⟩)
   ·exact List.forall_mem_cons.2 ⟨AG rfl (EntL.of_eq rfl) rfl,List.forall_mem_cons.2 ⟨AG rfl (.cons Af.same (.cons Af.same (.cons (Af.ny rfl) .nil))) rfl,List.forall_mem_cons.2 ⟨AG rfl (EntL.of_eq rfl) rfl,Ak⟩⟩⟩
  repeat (refine Dy rfl ?_;(first|refine As (hl:=?_)|refine AK (hl:=?_)|refine AB (hl:=?_)|refine AO (hl:=?_));apply Ah.nil)
  refine DH ?_
  refine A8 (ss:= [(0,.one (.ptr 901 0)),(6,.one (.ptr 6 0)),(7,.one (.ptr 7 0)),(8,Ay (i:Nat))]) (bs:= [(6,D8),(7,[.v (.int .i64 (u:Nat)),.v (.int .i64 (v:Nat)),.gl 900 (done++ [x]).length 3]),(900,Ao (nmD 2) (done++ [x])),(901,D0 l ps')]) ?_ ?_
  ·refine Cu ?_ ?_ rfl
   ·repeat (first|exact Ak|refine List.forall_mem_cons.2 ⟨Ent.of_eq rfl,?_⟩)
   ·exact List.forall_mem_cons.2 ⟨AG rfl (EntL.of_eq rfl) rfl,List.forall_mem_cons.2 ⟨AG rfl (.cons Af.same (.cons Af.same (.cons (Af.glLen (by rw [List.length_append];rfl)) .nil))) rfl,List.forall_mem_cons.2 ⟨Mm inferInstance (EntL.of_eq rfl),List.forall_mem_cons.2 ⟨AG rfl (EntL.of_eq rfl) rfl,Ak⟩⟩⟩⟩
  repeat (first|refine Ag ?_|refine Ac ?_|refine Aa rfl ?_|refine Ab rfl ?_|refine Am ?_|refine An ?_|refine Ad ?_|refine Ae ?_)
  refine ⟨m-1,by omega,i+1,done++ [x],ps',by omega,by omega,by simp [hdl],hstep,hp2,?_⟩
  exact BF
 ·obtain rfl:i=N:=by omega
  have bi:=AS (k:= .i64) (decide_eq_false (show ¬((i:Nat):Int)<((i:Nat):Int) by omega))
  rw [Nat.sub_self] at hS
  obtain rfl:S=(done,ps):=hS.symm
  repeat (first|refine Ag ?_|refine Ac ?_|refine Aa rfl ?_|refine Ab rfl ?_|refine Am ?_|refine An ?_|refine Ad ?_|refine Ae ?_)
  refine A5 900 hD (ss:= [(6,.one (.ptr 6 0))]) (bs:= [(6,[.v (.int .i64 (u:Nat)),.v (.int .i64 (v:Nat)),AH 2 done]),(901,D0 l ps)]) ?_ ?_
  ·exact Gg (List.forall_mem_cons.2 ⟨FzA.ent (Ent.of_eq rfl),Ak⟩) (List.forall_mem_cons.2 ⟨De.net,List.forall_mem_cons.2 ⟨De.of (AG rfl (EntL.of_eq rfl) rfl),Ak⟩⟩) rfl
  refine Ap (And.intro (Or.inr rfl) ?_)
  exact JV
theorem WE {l:List Int} {n U V k:Nat} (hb: ∀x∈l,-9223372036854775808≤x∧x<9223372036854775808) (hl:l.length≤1000000) (hn:n≤l.length) (hU:U≤40) (hV:V≤40):
  BJ Tryz.prog Amb 14 [.one (.ptr k 0),Ay (U:Nat),Ay (V:Nat)] [(k,D0 l n,D0 l (IN l U V n).2)] (net 2 (JK l U n) (JJ l U V n) (IN l U V n).1):=
 (Xt hb hl hn hU hV).at1 k rfl rfl
section
variable {j u v:Nat} {l:List Rat}
def Sn (n:Nat) (p:List Rat):List Rat:=Wb (cf p) n
theorem UC {n:Nat} {p:List Rat} :(Sn n p).length=(n-1)+1:=by
 unfold Sn Wb
 by_cases h:n=0
 ·rw [if_pos h,h];rfl
 ·rw [if_neg h,BC];omega
theorem Tt (hu:u≤40) (hv:v≤40) (hl:l.length=(u+1)*(v+1)) (hj:j≤100000) (hr: ∀r∈l,RSz j r):
  Ctr Tryz.prog Amb 39 [net j u v l] (net (2+(j+j+3)+2) (u-1) v (byC u v (u-1) (Sn u) l)):=by
 refine Ctr.netUp (k:=2+(j+j+3)+2) ?_ (by omega)
 have B1:=LF (g:=116) (j:=2+(j+j+3)+2) (m:=u-1) (F:=Sn u) hu hv hl (by omega) (fun _ _=>UC) fun i hi=>(VD (j:=j) (d:=u) (CL Cv hi) (by omega) (by omega)).short1 (fun r h=>hr r (Fe hl (Ep h)))
 generalize byC u v (u-1) (Sn u) l=q at*
 generalize 2+(j+j+3)+2=J at*
 refine Aj Tryz.func39 rfl rfl rfl rfl rfl rfl ?_
 intro W0 base D μ0 hA hD
 repeat (first|refine Ag ?_|refine Ac ?_|refine Aa rfl ?_|refine Ab rfl ?_|refine Am ?_|refine An ?_|refine Ad ?_|refine Ae ?_)
 refine Ap (And.intro (Or.inr rfl) ?_)
 exact AA
def PB (p:List Rat→Bool):Nat→List (List Rat)→Int
 | _,[]=> -1
 | i,x::l=>if p x then (i:Int) else PB p (i+1) l
theorem NT (p:List Rat→Bool): ∀(l:List (List Rat)) (i:Nat),decide (PB p i l≥0)=l.any p
 | [],_=>rfl
 | x::l,i=>by
   show decide ((if p x then (i:Int) else PB p (i+1) l)≥0)=(p x || l.any p)
   cases hp:p x with
   | true=>rw [if_pos rfl];simp
   | false=>rw [if_neg (by simp),NT p l (i+1)];rfl
theorem Uv {ls:List (List Rat)} {i:Nat} {x:List Rat} (h:ls[i]?=some x):ls.drop i=x::ls.drop (i+1):=by
 obtain ⟨hi,rfl⟩:=List.getElem?_eq_some_iff.1 h
 exact List.drop_eq_getElem_cons hi
theorem Ry {g:FuncId} [hG:Fun Tryz.prog g] {ls:List (List Rat)} {p:List Rat→Bool} (hl:ls.length≤1000000) (H: ∀x∈ls,Ctr Tryz.prog Amb g [.one (AH j x)] (.one (.v (.bool (p x))))):
  Ctr Tryz.prog Amb 158 [.one (FH j ls),.one (.fn g [])] (.one (.v (.int .i64 (PB p 0 ls)))):=by
 obtain ⟨R,hR⟩: ∃R,R=PB p 0 ls:=⟨_,rfl⟩
 rw [←hR]
 refine Aj Tryz.func158 rfl rfl rfl rfl rfl rfl ?_
 intro W0 base D μ0 hA hD
 repeat (first|refine Ag ?_|refine Ac ?_|refine Aa rfl ?_|refine Ab rfl ?_|refine Am ?_|refine An ?_|refine Ad ?_|refine Ae ?_)
 refine AW (fun m σ=> ∃(i:Nat),m=ls.length-i∧i≤ls.length∧PB p i (ls.drop i)=R∧Wk ⟨W0,base,D,19,[],μ0⟩ σ [(0,.one (FH j ls)),(1,.one (.fn g [])),(7,Ay (ls.length:Nat)),(8,Ay (i:Nat))] []) (n:=ls.length) ⟨0,by omega,by omega,hR.symm,?_⟩ ?_
 ·exact BF
 intro m σ hI
 obtain ⟨i,hm,hi0,hS,hw⟩:=hI
 refine A8 hw ?_
 clear hw
 by_cases hi:i<ls.length
 ·obtain ⟨x,hx,hx',hxm⟩:=Hh hi
  have bi:=AS (k:= .i64) (decide_eq_true (show (i:Int)<(ls.length:Int) by omega))
  have hin:=AR (a:=i) (by omega)
  have H1:=H x hxm
  rw [Uv hx'] at hS
  replace hS:(if p x then (i:Int) else PB p (i+1) (ls.drop (i+1)))=R:=hS
  cases hp:p x with
  | true=>
    rw [hp,if_pos rfl] at hS
    rw [hp] at H1
    repeat (first|refine Ag ?_|refine Ac ?_|refine Aa rfl ?_|refine Ab rfl ?_|refine Am ?_|refine An ?_|refine Ad ?_|refine Ae ?_)
    rw [←hS]
    refine Ap (And.intro (Or.inr rfl) ?_)
    exact AA
  | false=>
    rw [hp,if_neg (by simp)] at hS
    rw [hp] at H1
    repeat (first|refine Ag ?_|refine Ac ?_|refine Aa rfl ?_|refine Ab rfl ?_|refine Am ?_|refine An ?_|refine Ad ?_|refine Ae ?_)
    refine ⟨m-1,by omega,i+1,by omega,by omega,hS,?_⟩
    exact BF
 ·have bi:=AS (k:= .i64) (decide_eq_false (show ¬(i:Int)<(ls.length:Int) by omega))
  rw [List.drop_eq_nil_of_le (by omega)] at hS
  replace hS:(-1:Int)=R:=hS
  subst hS
  repeat (first|refine Ag ?_|refine Ac ?_|refine Aa rfl ?_|refine Ab rfl ?_|refine Am ?_|refine An ?_|refine Ad ?_|refine Ae ?_)
  refine Ap (And.intro (Or.inr rfl) ?_)
  exact AA
theorem LD {g:FuncId} [hG:Fun Tryz.prog g] {ls:List (List Rat)} {p:List Rat→Bool} (hl:ls.length≤1000000) (H: ∀x∈ls,Ctr Tryz.prog Amb g [.one (AH j x)] (.one (.v (.bool (p x))))):
  Ctr Tryz.prog Amb 83 [.one (FH j ls),.one (.fn g [])] (.one (.v (.bool (ls.any p)))):=by
 have I1:=Ry (j:=j) hl H
 have bg:=D7 (k:= .i64) (NT p ls 0)
 refine Aj Tryz.func83 rfl rfl rfl rfl rfl rfl ?_
 intro W0 base D μ0 hA hD
 repeat (first|refine Ag ?_|refine Ac ?_|refine Aa rfl ?_|refine Ab rfl ?_|refine Am ?_|refine An ?_|refine Ad ?_|refine Ae ?_)
 refine Ap (And.intro (Or.inr rfl) ?_)
 exact AA
theorem Rt {p:List Rat} (h1:0<p.length) (h2:p.length≤41) (hj:j≤16):Ctr Tryz.prog Amb 85 [.one (AH j p)] (.one (.v (.bool false))):=by
 have V1:=Th (j:=j) (l:=p) h1 h2 hj
 refine Aj Tryz.func85 rfl rfl rfl rfl rfl rfl ?_
 intro W0 base D μ0 hA hD
 repeat (first|refine Ag ?_|refine Ac ?_|refine Aa rfl ?_|refine Ab rfl ?_|refine Am ?_|refine An ?_|refine Ad ?_|refine Ae ?_)
 refine Ap (And.intro (Or.inr rfl) ?_)
 exact AA
theorem Jp (hu:u≤40) (hv:v≤40) (hl:l.length=(u+1)*(v+1)) (hj:j≤16):Ctr Tryz.prog Amb 15 [net j u v l] (.one (.v (.bool true))):=by
 have P1:=FD (j:=j) hu hv hl
 have R1:=LB (j:=j) hu hv hl
 have hrl:(Cd u v l).length=u+1:=BC
 have C1:=LD (g:=85) (j:=j) (ls:=Cd u v l) (p:=fun _=>false) (by omega) (fun p hp=>by
  obtain ⟨i,hi,rfl⟩:=List.mem_map.1 hp
  have hrow:=CL (v:=v) hl (i:=i) (by have:=List.mem_range.1 hi;omega)
  exact Rt (by omega) (by omega) hj)
 have e:(Cd u v l).any (fun _=>false)=false:=by simp
 rw [e] at C1
 generalize Cd u v l=RS at*
 refine Aj Tryz.func15 rfl rfl rfl rfl rfl rfl ?_
 intro W0 base D μ0 hA hD
 repeat (first|refine Ag ?_|refine Ac ?_|refine Aa rfl ?_|refine Ab rfl ?_|refine Am ?_|refine An ?_|refine Ad ?_|refine Ae ?_)
 refine Ap (And.intro (Or.inr rfl) ?_)
 exact AA
end
abbrev exN:List Rat:= [0,0,0,Cy]
theorem QD: ∀r∈exN,RSz 2 r:=fun r hr=>by
 have h0:RSz 2 0:=IX (by decide+kernel) (by decide)
 rcases List.mem_cons.1 hr with rfl|hr
 ·exact h0
 rcases List.mem_cons.1 hr with rfl|hr
 ·exact h0
 rcases List.mem_cons.1 hr with rfl|hr
 ·exact h0
 rw [List.mem_singleton.1 hr]
 exact IX (by decide+kernel) (by decide)
theorem UV:Ctr Tryz.prog Amb 12 [] (.one (.v (.bool true))):=by
 have hh:RSz 2 Uf:=IX (by decide+kernel) (by decide)
 have I1:=Ql (n:=1) rfl
 have V1:=Jp (j:=2) (u:=1) (v:=1) (l:=exN) (by decide) (by decide) rfl (by decide)
 have E1:=(Qg (j:=2) (jt:=2) (ju:=2) (js:=14) (u:=1) (v:=1) (l:=exN) (a:=Uf) (b:=Uf) (by decide) (by decide) rfl (by decide) (by decide) (by decide) QD hh hh (by decide) (by decide)).nmTo (k:=2) (y:=1/4) (IX (by decide+kernel) (by decide)) (by decide+kernel)
 have D1:=Tt (j:=2) (u:=1) (v:=1) (l:=exN) (by decide) (by decide) rfl (by decide) QD
 obtain ⟨L,hL⟩: ∃L,L=byC 1 1 (1-1) (Sn 1) exN:=⟨_,rfl⟩
 rw [←hL] at D1
 have hLl:L.length=2:=by rw [hL];decide+kernel
 have hx:L[(1:Int).toNat]?=some Cy:=by rw [hL];decide+kernel
 clear hL
 have T1:=Qj (j:=2) (x:=1/4) (s:= { data:= #[49,47,52] }) (by decide) (by decide+kernel)
 have T2:=Qj (j:=2+(2+2+3)+2) (x:=Cy) (s:= { data:= #[49] }) (by decide) (by decide+kernel)
 have b0:=FS (k:= .i64) (decide_eq_true (show (((1-1:Nat):Nat):Int)=0 from rfl))
 have b1:=FS (k:= .i64) (decide_eq_true (show ((1:Nat):Int)=1 from rfl))
 have b2:=FS (k:= .i64) (decide_eq_true (show ((L.length:Nat):Int)=2 by rw [hLl];rfl))
 refine Aj Tryz.func12 rfl rfl rfl rfl rfl rfl ?_
 intro W0 base D μ0 hA hD
 repeat (first|refine Ag ?_|refine Ac ?_|refine Aa rfl ?_|refine Ab rfl ?_|refine Am ?_|refine An ?_|refine Ad ?_|refine Ae ?_)
 refine A8 (ss:= [(1,.one (.ptr 1 0))]) (bs:= [(1,[.v (.int .i64 1),.v (.int .i64 1),.gl 8 4 3]),(8,Ao (nmD 2) exN)]) ?_ ?_
 ·exact BF
 refine A5 8 hD (ss:= [(1,.one (.ptr 1 0))]) (bs:= [(1,[.v (.int .i64 1),.v (.int .i64 1),AH 2 exN])]) ?_ ?_
 ·refine Gg (List.forall_mem_cons.2 ⟨FzA.ent (Ent.of_eq rfl),Ak⟩) (List.forall_mem_cons.2 ⟨De.net,Ak⟩) rfl
 have F1:=Pd (n:=1) (d:=2) rfl
 repeat (first
  | refine Ag ?_|refine Ac ?_|refine Aa rfl ?_|refine Ab rfl ?_
  | ((first|refine AQ (by kernel_rfl) ?_|refine BO (by kernel_rfl) (by kernel_rfl) (by kernel_rfl) ?_)
     repeat (first
      | refine DG (hl:=?_)
      | refine AK (hl:=?_)
      | refine As (hl:=?_)
      | refine BB (hl:=?_)
      | refine AB (hl:=?_)
      | refine AO (hl:=?_)
      | refine BP (hl:=?_)
      | refine BL (hl:=?_)
      | refine BM (hl:=?_)
      | refine BN (hl:=?_)
      | refine AT (hl:=?_)
      | refine C8 (hl:=?_)
      | refine C9 (hl:=?_)
      | refine Cc (hl:=?_)
      | refine B7 (hl:=?_)
      | refine B6 (hl:=?_)
      | refine B8 (hl:=?_)
      | refine Dp (hl:=?_)
      | refine AY (hl:=?_)
      | refine BI (hl:=?_)
      | refine BD (hl:=?_)
      | refine AD hA (hc:=F1) (hl:=?_)
      | refine AD hA (hc:=D1) (hl:=?_)
      | refine AD hA (hc:=V1) (hl:=?_)
      | refine AD hA (hc:=E1) (hl:=?_)
      | refine AD hA (hc:=T1) (hl:=?_)
      | refine AD hA (hc:=T2) (hl:=?_)
      | refine FO (i:=1) hx (by omega) (hl:=?_)
      | refine WS (hl:=?_))
     apply Ah.nil;try refine And.intro (by kernel_rfl) ?_)
  | refine Ad ?_|refine Ae ?_)
 refine Ap (And.intro (Or.inr rfl) ?_)
 exact AA
end Go.Proofs.YtfineedhebhpaaaGreatDoor
