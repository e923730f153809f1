/-
  Several texts in one: Zb, Zc.
-/
import Derived.Test.YtfineedhebhpaaaGreatDoorHy
import Derived.Test.YtfineedhebhpaaaGreatDoorDn
import Derived.Test.YtfineedhebhpaaaGreatDoorHn
namespace Go.Proofs.YtfineedhebhpaaaGreatDoor
open Go.RowKit
set_option linter.unusedVariables false
set_option linter.unusedSimpArgs false
set_option maxRecDepth 20000
set_option maxHeartbeats 4000000
theorem Xo {P:Program} {r1 r2:ResultVar} {R a b:AV} {σ:St} {ns:List (Nat×List C)} (hn: ∀q∈ns,DD σ [] q∨DD σ (ns.map (·.1)) q) (h1:ResIs P σ r1 a:=by first|exact ResIs.tmp rfl|exact ResIs.cell inferInstance rfl rfl rfl rfl) (h2:ResIs P σ r2 b:=by first|exact ResIs.tmp rfl|exact ResIs.cell inferInstance rfl rfl rfl rfl) (ha:([a,b].all fun a=>match a with | .tup _=>false|_=>true)=true:=by exact rfl) (hE:Ent (.tup [a,b]) R:=by exact Ent.of_eq rfl):Fin P [r1,r2] [] R σ∧U6 ns σ:=
 ⟨QC h1 h2 ha hE,fun q hq=>by rcases hn q hq with h|h<;>exact h.1⟩
theorem V5 {P:Program} {r1 r2 r3:ResultVar} {R a b c:AV} {σ:St} (h1:ResIs P σ r1 a:=by first|exact ResIs.tmp rfl|exact ResIs.cell inferInstance rfl rfl rfl rfl) (h2:ResIs P σ r2 b:=by first|exact ResIs.tmp rfl|exact ResIs.cell inferInstance rfl rfl rfl rfl) (h3:ResIs P σ r3 c:=by first|exact ResIs.tmp rfl|exact ResIs.cell inferInstance rfl rfl rfl rfl) (ha:([a,b,c].all fun a=>match a with | .tup _=>false|_=>true)=true:=by exact rfl) (hE:Ent (.tup [a,b,c]) R:=by exact Ent.of_eq rfl):Fin P [r1,r2,r3] [] R σ:=
 ⟨⟨[a,b,c],.cons h1 (.cons h2 (.cons h3 .nil)),.inr ha,hE⟩,fun p hp=>by cases hp⟩
theorem Tp {j k:Nat} {x y:Rat} (hj:j≤100000000) (hk:k≤100000000) (h0:y≠0):Ctr Tryz.prog Amb 106 [nm j x,nm k y] (nm (j+k+2) (x/y)):=by
 have Q1:=Yd (j:=j) (k:=k) (x:=x) (y:=y) hj hk h0
 refine Aj Tryz.func106 rfl rfl rfl rfl rfl rfl ?_
 intro W0 base D μ0 hA hD
 repeat (first|refine Ag ?_|refine Ac ?_|refine Aa rfl ?_|refine Ab rfl ?_|refine Am ?_|refine An ?_|refine Ad ?_|refine Ae ?_)
 refine Ap (And.intro (Or.inr rfl) ?_)
 exact AA
theorem VB {j:Nat} {t:Rat} (hj:j≤10000000):Ctr Tryz.prog Amb 165 [nm j t] (.tup [nm (2*j+4) (t*BV t),nm (3*j+9) (BV t-t*BV t),nm (j+2) (BV t)]):=by
 have D1:=WI (j:=j) (x:=t) (by omega)
 have M1:=GJ (j:=j) (k:=j+2) (x:=t) (y:=BV t) (by omega) (by omega)
 have S1:=Li (j:=j+2) (k:=j+(j+2)+2) (x:=BV t) (y:=t*BV t) (by omega) (by omega)
 refine Aj Tryz.func165 rfl rfl rfl rfl rfl rfl ?_
 intro W0 base D μ0 hA hD
 repeat (first|refine Ag ?_|refine Ac ?_|refine Aa rfl ?_|refine Ab rfl ?_|refine Am ?_|refine An ?_|refine Ad ?_|refine Ae ?_)
 refine Ap (And.intro (Or.inr rfl) ?_)
 exact V5 (hE:=(by first|exact Ent.of_eq rfl|(refine Ent.tup rfl ?_;(repeat (first|exact EntT.nil|(refine EntT.cons ?_ rfl rfl ?_;focus (first|exact Ent.of_eq rfl|(refine Ent.agg' rfl ?_;(repeat (first|exact EntL.nil' rfl|(refine EntL.cons' rfl ?_ ?_;focus exact Gh)));done)|(refine Ent.one' rfl ?_;exact Gh)))));done)))
def DY (a q:Rat) (i:Nat):Rat:=a*q^i
theorem Ip (a q:Rat):DY a q 0=a:=by unfold DY;rw [Rat.pow_zero,Rat.mul_one]
theorem Iq (a q:Rat) (i:Nat):DY a q (i+1)=DY a q i*q:=by unfold DY;rw [Rat.pow_succ,Rat.mul_assoc]
theorem F3 {ja jq n J:Nat} {a q:Rat} (h1:ja≤10000000) (h2:jq≤10000000) (h3:J≤10000000) (hn:n≤1000) (hJ: ∀i,i≤n→RSz J (DY a q i)):
  Ctr Tryz.prog Amb 167 [nm ja a,nm jq q,Ay (n:Nat)] (.one (EX J (n+1) (DY a q))):=by
 have h0:=hJ 0 (Nat.zero_le _)
 rw [Ip] at h0
 refine Aj Tryz.func167 rfl rfl rfl rfl rfl rfl ?_
 intro W0 base D μ0 hA hD
 repeat (first|refine Ag ?_|refine Ac ?_|refine Aa rfl ?_|refine Ab rfl ?_|refine Am ?_|refine An ?_|refine Ad ?_|refine Ae ?_)
 refine AW (fun m σ=> ∃(i:Nat) (done:List Rat),m=n-i∧i≤n∧done=tab (i+1) (DY a q)∧Wk ⟨W0,base,D,26,[],μ0⟩ σ [(4,.one (.ptr 4 0)),(7,.one (.gl 10 done.length 3)),(11,Ay (n:Nat)),(12,Ay (i:Nat))] [(10,Ao (nmD J) done),(4,nmC jq q)]) (n:=n) ⟨0,[a],by omega,by omega,by simp [tab,Ip],?_⟩ ?_
 ·exact BF
 intro m σ hI
 obtain ⟨i,done,hm,hi0,hdone,hw⟩:=hI
 refine A8 hw ?_
 clear hw
 have hdl:done.length=i+1:=by rw [hdone];simp
 by_cases hi:i<n
 ·have bi:=AS (k:= .i64) (decide_eq_true (show (i:Int)<(n:Int) by omega))
  have hin:=BW (k:= .i64) (show (IntKind.i64).wrap ((i:Int)+1)=((i+1:Nat):Int) from IntWalk.i64_in _ (by omega))
  have hx:done[((i:Nat):Int).toNat]?=some (DY a q i):=by rw [hdone];exact CG (by omega)
  have lt1:(0:Int)≤((i:Nat):Int)∧((i:Nat):Int)<(done.length:Nat):=by omega
  have st1:((i:Nat):Int).toNat*3+3≤(Ao (nmD J) done).length:=by rw [Av (n:=3) inferInstance,Int.toNat_natCast];omega
  have ld1:=CH (f:=nmD J) (n:=3) inferInstance hx
  have M1:=GJ (j:=J) (k:=jq) (x:=DY a q i) (y:=q) (by omega) (by omega)
  have hs:=hJ (i+1) (by omega)
  rw [Iq] at hs
  have ht:done++ [DY a q i*q]=tab (i+1+1) (DY a q):=by rw [hdone,←Iq];exact Fg
  generalize DY a q i=x at*
  repeat (first|refine Ag ?_|refine Ac ?_|refine Aa rfl ?_|refine Ab rfl ?_|refine Am ?_|refine An ?_|refine Ad ?_|refine Ae ?_)
  try refine Ag ?_
  refine Fw 8 (by simp only [List.take_succ_cons,List.take_zero,List.drop_succ_cons,List.drop_zero];exact ⟨rfl,rfl⟩) (by kernel_rfl) (by kernel_rfl) (by kernel_rfl) (by kernel_rfl) (by kernel_rfl) ?_
  repeat (first
   | refine Ln (k:=10) st1 ld1 (hl:=?_)
   | refine AK (hl:=?_)
   | refine As (hl:=?_)
   | refine BB (hl:=?_)
   | refine Fb (hl:=?_)
   | refine BN (hl:=?_)
   | refine AT (hl:=?_)
   | refine B7 (hl:=?_)
   | refine B6 (hl:=?_)
   | refine B8 (hl:=?_)
   | refine AY (hl:=?_)
   | refine BD (hl:=?_)
   | refine Lo lt1 (hl:=?_)
   | refine AD hA (hc:=M1) (hl:=?_))
  apply Ah.nil
  refine And.intro (by kernel_rfl) ?_
  refine FP (k:=10) (ss:= [(4,.one (.ptr 4 0)),(11,Ay (n:Nat)),(12,Ay (i:Nat))]) (bs:= [(4,nmC jq q)]) (ns:=(nmC (J+jq+2) (x*q))) hD ?_ ?_ ?_
  ·exact ⟨by omega,by omega⟩
  ·exact BF
  repeat (refine Dy rfl ?_;(first|refine As (hl:=?_)|refine AK (hl:=?_)|refine AO (hl:=?_));apply Ah.nil)
  refine DH ?_
  repeat (first|refine Ag ?_|refine Ac ?_|refine Aa rfl ?_|refine Ab rfl ?_|refine Am ?_|refine An ?_|refine Ad ?_|refine Ae ?_)
  refine ⟨m-1,by omega,i+1,done++ [x*q],by omega,by omega,ht,?_⟩
  exact BF
 ·have bi:=AS (k:= .i64) (decide_eq_false (show ¬(i:Int)<(n:Int) by omega))
  obtain rfl:i=n:=by omega
  repeat (first|refine Ag ?_|refine Ac ?_|refine Aa rfl ?_|refine Ab rfl ?_|refine Am ?_|refine An ?_|refine Ad ?_|refine Ae ?_)
  refine A5 10 hD (ss:= [(6,.one (AH J done))]) (bs:= []) ?_ ?_
  ·exact IO
  subst hdone
  refine Ap (And.intro (Or.inr rfl) ?_)
  exact AA
theorem Jq {ju jd n J:Nat} {u d:Rat} {f:Nat→Rat} (h1:ju≤10000000) (h2:jd≤10000000) (h3:J≤10000000) (hn:n≤1000) (hJ: ∀k i,k+i≤n→RSz J (AF u d f k i)):
  BJ Tryz.prog Amb 166 [.one (.gl 26 (n+1) 3),nm ju u,nm jd d] [(26,Ao (nmD J) (tab (n+1) f),Ao (nmD J) (tab (n+1) fun q=>AF u d f (n-q) q))] (.one (EX J (n+1) fun k=>AF u d f k 0)):=by
 have hdn:=Cl (k:= .i64) (show (IntKind.i64).wrap (((n+1:Nat):Int)-1)=(n:Int) by rw [show (((n+1:Nat):Int)-1)=(n:Int) by omega];exact IntWalk.i64_in _ (by omega))
 obtain ⟨R,hR⟩: ∃R,R=tab (n+1) fun q=>AF u d f (n-q) q:=⟨_,rfl⟩
 obtain ⟨L,hL⟩: ∃L,L=tab (n+1) f:=⟨_,rfl⟩
 rw [←hR,←hL]
 have hLl:L.length=n+1:=by rw [hL];simp
 have hst:=Kc (u:=u) (d:=d) (f:=f) (n:=n)
 rw [←hL] at hst
 apply Aj Tryz.func166 rfl rfl rfl rfl
 case hpf=>
  simp only [List.all_cons,List.all_nil,Bool.and_true,Bool.and_eq_true]
  exact ⟨rfl,Ho _,Ho _⟩
 case hin=>simp [inA,inC]
 intro W0 base D μ0 hA hD
 have hx0:L[((0:Nat):Int).toNat]?=some (f 0):=by rw [hL];exact CG (by omega)
 have lt0:(0:Int)≤((0:Nat):Int)∧((0:Nat):Int)<((n+1:Nat):Int):=by omega
 have st0:((0:Nat):Int).toNat*3+3≤(Ao (nmD J) L).length:=by rw [Av (n:=3) inferInstance,Int.toNat_natCast];omega
 have ld0:=CH (f:=nmD J) (n:=3) inferInstance hx0
 repeat (first|refine Ag ?_|refine Ac ?_|refine Aa rfl ?_|refine Ab rfl ?_|refine Am ?_|refine An ?_|refine Ad ?_|refine Ae ?_)
 refine AW (fun m σ=> ∃(s:Nat) (cur done:List Rat),m=n-s∧s≤n∧cur=tab (n+1) (Ef u d f n s 0)∧done=tab (s+1) (fun k=>AF u d f k 0)∧Wk ⟨W0,base,D,54,[26],μ0⟩ σ [(0,.one (.gl 26 (n+1) 3)),(4,.one (.ptr 4 0)),(5,.one (.ptr 5 0)),(7,Ay (n:Nat)),(8,.one (.gl 17 done.length 3)),(18,Ay (n:Nat)),(19,Ay (s:Nat))] [(26,Ao (nmD J) cur),(17,Ao (nmD J) done),(4,nmC ju u),(5,nmC jd d)]) (n:=n) ⟨0,L,[f 0],by omega,by omega,hst.symm,by simp [tab,AF],?_⟩ ?_
 ·exact BF
 intro m σ hI
 obtain ⟨s,cur,done,hm,hs0,hcur,hdone,hw⟩:=hI
 refine A8 hw ?_
 clear hw hst hx0 ld0 st0 lt0
 have hdl:done.length=s+1:=by rw [hdone];simp
 by_cases hs:s<n
 ·have bs:=AS (k:= .i64) (decide_eq_true (show (s:Int)<(n:Int) by omega))
  have hsn:=Cl (k:= .i64) (show (IntKind.i64).wrap ((n:Int)-(s:Int))=((n-s:Nat):Int) by rw [show ((n:Int)-(s:Int))=((n-s:Nat):Int) by omega];exact IntWalk.i64_in _ (by omega))
  repeat (first|refine Ag ?_|refine Ac ?_|refine Aa rfl ?_|refine Ab rfl ?_|refine Am ?_|refine An ?_|refine Ad ?_|refine Ae ?_)
  refine AW (fun b σ=> ∃(i:Nat) (cur:List Rat),b=n-s-i∧i≤n-s∧cur=tab (n+1) (Ef u d f n s i)∧Wk ⟨W0,base,D,54,[26],μ0⟩ σ [(0,.one (.gl 26 (n+1) 3)),(4,.one (.ptr 4 0)),(5,.one (.ptr 5 0)),(7,Ay (n:Nat)),(8,.one (.gl 17 done.length 3)),(18,Ay (n:Nat)),(19,Ay (s:Nat)),(24,Ay ((n-s:Nat):Int)),(25,Ay (i:Nat))] [(26,Ao (nmD J) cur),(17,Ao (nmD J) done),(4,nmC ju u),(5,nmC jd d)]) (n:=n-s) ⟨0,cur,by omega,by omega,hcur,?_⟩ ?_
  ·exact BF
  clear hcur cur
  intro b σ hI
  obtain ⟨i,cur,hb,hi0,hcur,hw⟩:=hI
  refine A8 hw ?_
  clear hw
  have hcl:cur.length=n+1:=by rw [hcur];simp
  by_cases hi:i<n-s
  ·have bi:=AS (k:= .i64) (decide_eq_true (show (i:Int)<((n-s:Nat):Int) by omega))
   have hin:=BW (k:= .i64) (show (IntKind.i64).wrap ((i:Int)+1)=((i+1:Nat):Int) from IntWalk.i64_in _ (by omega))
   have hx:cur[((i:Nat):Int).toNat]?=some (AF u d f s i):=by rw [hcur,←FL (u:=u) (d:=d) (f:=f) (n:=n) (k:=s) (i:=i) (q:=i) (by omega) (by omega)];exact CG (by omega)
   have hy:cur[((i+1:Nat):Int).toNat]?=some (AF u d f s (i+1)):=by rw [hcur,←FL (u:=u) (d:=d) (f:=f) (n:=n) (k:=s) (i:=i) (q:=i+1) (by omega) (by omega)];exact CG (by omega)
   have lt1:(0:Int)≤((i:Nat):Int)∧((i:Nat):Int)<((n+1:Nat):Int):=by omega
   have lt2:(0:Int)≤((i+1:Nat):Int)∧((i+1:Nat):Int)<((n+1:Nat):Int):=by omega
   have st1:((i:Nat):Int).toNat*3+3≤(Ao (nmD J) cur).length:=by rw [Av (n:=3) inferInstance,Int.toNat_natCast];omega
   have st2:((i+1:Nat):Int).toNat*3+3≤(Ao (nmD J) cur).length:=by rw [Av (n:=3) inferInstance,Int.toNat_natCast];omega
   have ld1:=CH (f:=nmD J) (n:=3) inferInstance hx
   have ld2:=CH (f:=nmD J) (n:=3) inferInstance hy
   have M1:=GJ (j:=jd) (k:=J) (x:=d) (y:=AF u d f s i) (by omega) (by omega)
   have M2:=GJ (j:=ju) (k:=J) (x:=u) (y:=AF u d f s (i+1)) (by omega) (by omega)
   have A1:=Ye (j:=jd+J+2) (k:=ju+J+2) (x:=d*AF u d f s i) (y:=u*AF u d f s (i+1)) (by omega) (by omega)
   have hz:=hJ (s+1) i (by omega)
   have ht:=Of (u:=u) (d:=d) (f:=f) (n:=n) (k:=s) (i:=i) (by omega) rfl
   rw [←hcur] at ht
   replace hz:RSz J (d*AF u d f s i+u*AF u d f s (i+1)):=hz
   generalize AF u d f s i=x at*
   generalize AF u d f s (i+1)=y at*
   repeat (first|refine Ag ?_|refine Ac ?_|refine Aa rfl ?_|refine Ab rfl ?_|refine Am ?_|refine An ?_|refine Ad ?_|refine Ae ?_)
   refine ⟨b-1,by omega,i+1,cur.set i (d*x+u*y),by omega,by omega,ht,?_⟩
   exact BF
  ·have bi:=AS (k:= .i64) (decide_eq_false (show ¬(i:Int)<((n-s:Nat):Int) by omega))
   obtain rfl:i=n-s:=by omega
   have hin:=BW (k:= .i64) (show (IntKind.i64).wrap ((s:Int)+1)=((s+1:Nat):Int) from IntWalk.i64_in _ (by omega))
   rw [Lh (by omega)] at hcur
   have hx:cur[((0:Nat):Int).toNat]?=some (AF u d f (s+1) 0):=by rw [hcur,←FL (u:=u) (d:=d) (f:=f) (n:=n) (k:=s+1) (i:=0) (q:=0) (by omega) (by omega)];exact CG (by omega)
   have lt1:(0:Int)≤((0:Nat):Int)∧((0:Nat):Int)<((n+1:Nat):Int):=by omega
   have st1:((0:Nat):Int).toNat*3+3≤(Ao (nmD J) cur).length:=by rw [Av (n:=3) inferInstance,Int.toNat_natCast];omega
   have ld1:=CH (f:=nmD J) (n:=3) inferInstance hx
   have ht:done++ [AF u d f (s+1) 0]=tab (s+1+1) fun k=>AF u d f k 0:=by rw [hdone];exact Fg (g:=fun k=>AF u d f k 0)
   generalize AF u d f (s+1) 0=x at*
   repeat (first|refine Ag ?_|refine Ac ?_|refine Aa rfl ?_|refine Ab rfl ?_|refine Am ?_|refine An ?_|refine Ad ?_|refine Ae ?_)
   try refine Ag ?_
   refine DS 5 (by simp only [List.take_succ_cons,List.take_zero,List.drop_succ_cons,List.drop_zero];exact ⟨rfl,rfl⟩) (by kernel_rfl) ?_
   repeat (first
    | refine Ln (k:=26) st1 ld1 (hl:=?_)
    | refine AK (hl:=?_)
    | refine As (hl:=?_)
    | refine BB (hl:=?_)
    | refine AO (hl:=?_)
    | refine Fb (hl:=?_)
    | refine BN (hl:=?_)
    | refine AT (hl:=?_)
    | refine B7 (hl:=?_)
    | refine B6 (hl:=?_)
    | refine B8 (hl:=?_)
    | refine Dp (hl:=?_)
    | refine AY (hl:=?_)
    | refine BD (hl:=?_)
    | refine Lo lt1 (hl:=?_))
   apply Ah.nil
   refine FP (k:=17) (ss:= [(0,.one (.gl 26 (n+1) 3)),(4,.one (.ptr 4 0)),(5,.one (.ptr 5 0)),(7,Ay (n:Nat)),(18,Ay (n:Nat)),(19,Ay (s:Nat))]) (bs:= [(26,Ao (nmD J) cur),(4,nmC ju u),(5,nmC jd d)]) (ns:=(nmC J x)) hD ?_ ?_ ?_
   ·exact ⟨by omega,by omega⟩
   ·exact BF
   repeat (refine Dy rfl ?_;(first|refine As (hl:=?_)|refine AK (hl:=?_)|refine AO (hl:=?_));apply Ah.nil)
   refine DH ?_
   repeat (first|refine Ag ?_|refine Ac ?_|refine Aa rfl ?_|refine Ab rfl ?_|refine Am ?_|refine An ?_|refine Ad ?_|refine Ae ?_)
   refine ⟨m-1,by omega,s+1,cur,done++ [x],by omega,by omega,hcur,ht,?_⟩
   exact BF
 ·have bs:=AS (k:= .i64) (decide_eq_false (show ¬(s:Int)<(n:Int) by omega))
  obtain rfl:s=n:=by omega
  rw [Og,←hR] at hcur
  subst hcur
  repeat (first|refine Ag ?_|refine Ac ?_|refine Aa rfl ?_|refine Ab rfl ?_|refine Am ?_|refine An ?_|refine Ad ?_|refine Ae ?_)
  refine A5 17 hD (ss:= [(6,.one (AH J done))]) (bs:= [(26,Ao (nmD J) cur)]) ?_ ?_
  ·exact IO
  subst hdone
  refine Ap (And.intro (Or.inr rfl) ⟨(AA (hE:=Ent.of_eq rfl)).1,?_⟩)
  exact List.forall_mem_cons.2 ⟨(AN (ks:= []) inferInstance).1,Ak⟩
theorem FE {j:Nat} {l:List Rat} (h1:0<l.length) (h2:l.length≤41):Ctr Tryz.prog Amb 159 [.one (AH j l)] (.one (.v (.bool true))):=by
 have b1:=WM (k:= .i64) (decide_eq_true (show (l.length:Int)>0 by omega))
 have b2:=D4 (k:= .i64) (decide_eq_true (show (l.length:Int)≤41 by omega))
 refine Aj Tryz.func159 rfl rfl rfl rfl rfl rfl ?_
 intro W0 base D μ0 hA hD
 repeat (first|refine Ag ?_|refine Ac ?_|refine Aa rfl ?_|refine Ab rfl ?_|refine Am ?_|refine An ?_|refine Ad ?_|refine Ae ?_)
 refine Ap (And.intro (Or.inr rfl) ?_)
 exact AA
theorem QE {α:Type} {l:List α} {i:Nat} {x:α} (h:l[i]?=some x):l.drop i=x::l.drop (i+1):=by
 have hi:=(List.getElem?_eq_some_iff.1 h)
 rw [List.drop_eq_getElem_cons hi.1,hi.2]
abbrev Cy:Rat:=((1:Int):Rat)
theorem Vz {j J:Nat} {l:List Rat} (hl:l.length≤100) (hne:0<l.length) (hj:j≤100000) (hr: ∀r∈l,RSz j r) (hJ:l.length*j+2+j+2≤J):
  C7 Tryz.prog Amb 164 [.one (AH j l)] [] [(26,Ao (nmD J) (l.map fun r=>whS Cy l*r))] (.tup [.one (.gl 26 (l.map fun r=>whS Cy l*r).length 3),nm (l.length*j+2) (whS Cy l)]):=by
 have hjs:l.length*j≤10000000:=Nat.le_trans (Nat.mul_le_mul hl hj) (by decide)
 obtain ⟨js,hjse⟩: ∃js,js=l.length*j+2:=⟨_,rfl⟩
 rw [←hjse] at hJ⊢
 obtain ⟨S,hS⟩: ∃S,S=whS Cy l:=⟨_,rfl⟩
 rw [←hS]
 obtain ⟨h,hh⟩: ∃h:Rat→Rat,h=fun r=>S*r:=⟨_,rfl⟩
 rw [←hh]
 have hne':(!(Ao (nmD J) (l.map h)).isEmpty)=true:=by
  have:=Cr (f:=nmD J) inferInstance (by decide) (show 0<(l.map h).length by simpa using hne)
  cases hb:Ao (nmD J) (l.map h) with
  | nil=>rw [hb] at this;cases this
  | cons a b=>rfl
 have I1:=US (n:=1) rfl
 refine CV Tryz.func164 rfl rfl rfl rfl (by
  simp only [List.all_cons,List.all_nil,Bool.and_true,Bool.and_eq_true]
  exact ⟨by simp [inA,inC],Cs _ _,hne'⟩) (by simp [inA,inC]) (by simp) (by simp) ?_
 intro W0 base D μ0 hA hD
 repeat (first|refine Ag ?_|refine Ac ?_|refine Aa rfl ?_|refine Ab rfl ?_|refine Am ?_|refine An ?_|refine Ad ?_|refine Ae ?_)
 refine AW (fun b σ=> ∃(i m:Nat),b=l.length-i∧i≤l.length∧0<m∧Sz (i*j+2) m∧whS ((m:Int):Rat) (l.drop i)=S∧Wk ⟨W0,base,D,43,[],μ0⟩ σ [(0,.one (AH j l)),(3,.one (.ptr 3 0)),(4,.one (.ptr 4 0)),(11,.one (AH j l)),(12,Ay (l.length:Nat)),(13,Ay (i:Nat))] [(3,nmC 2 0),(4,nmC js ((m:Int):Rat))]) (n:=l.length) ⟨0,1,by omega,by omega,by decide,Al _ _ (by rw [Nat.zero_mul];decide),hS.symm,?_⟩ ?_
 ·exact BF
 intro b σ hI
 obtain ⟨i,m,hb,hi0,hm,hms,hw0,hw⟩:=hI
 refine A8 hw ?_
 clear hw
 by_cases hi:i<l.length
 ·obtain ⟨x,hx,hx'⟩:=Ge hi
  have bi:=AS (k:= .i64) (decide_eq_true (show (i:Int)<(l.length:Int) by omega))
  have hin:=BW (k:= .i64) (show (IntKind.i64).wrap ((i:Int)+1)=((i+1:Nat):Int) from IntWalk.i64_in _ (by omega))
  rw [QE hx'] at hw0
  obtain ⟨m',hm',he,hs'⟩:=SH (r:=x) hm hms (hr x (List.mem_of_getElem? hx'))
  have hw1:whS ((m':Int):Rat) (l.drop (i+1))=S:=by rw [←he];exact hw0
  have e1:i*j+2+j=(i+1)*j+2:=by rw [Nat.succ_mul];omega
  rw [e1] at hs'
  have hs2:RSz js ((m':Int):Rat):=(Qh hs' (by omega)).mono (by
   have:=Nat.mul_le_mul_right j (show i+1≤l.length by omega)
   omega)
  have M1:=GJ (j:=js) (k:=j) (x:=((m:Int):Rat)) (y:=x) (by omega) (by omega)
  have D1:=WI (j:=js+j+2) (x:=((m:Int):Rat)*x) (by omega)
  have M2:=GJ (j:=js) (k:=js+j+2+2) (x:=((m:Int):Rat)) (y:=BV (((m:Int):Rat)*x)) (by omega) (by omega)
  repeat (first|refine Ag ?_|refine Ac ?_|refine Aa rfl ?_|refine Ab rfl ?_|refine Am ?_|refine An ?_|refine Ad ?_|refine Ae ?_)
  refine ⟨b-1,by omega,i+1,m',by omega,by omega,hm',hs',hw1,?_⟩
  exact BF
 ·have bi:=AS (k:= .i64) (decide_eq_false (show ¬(i:Int)<(l.length:Int) by omega))
  have hmS:((m:Int):Rat)=S:=by
   rw [List.drop_eq_nil_of_le (by omega)] at hw0
   exact hw0
  rw [hmS]
  clear hw0 hms hm I1 hS hmS
  repeat (first|refine Ag ?_|refine Ac ?_|refine Aa rfl ?_|refine Ab rfl ?_|refine Am ?_|refine An ?_|refine Ad ?_|refine Ae ?_)
  refine AW (fun n σ=> ∃(i:Nat) (cur:List Rat),n=l.length-i∧i≤l.length∧cur=(l.take i).map h++List.replicate (l.length-i) 0∧Wk ⟨W0,base,D,43,[],μ0⟩ σ [(3,.one (.ptr 3 0)),(4,.one (.ptr 4 0)),(7,.one (.gl 26 l.length 3)),(27,.one (AH j l)),(28,Ay (l.length:Nat)),(29,Ay (i:Nat))] [(26,Ao (nmD J) cur),(3,nmC 2 0),(4,nmC js S)]) (n:=l.length) ⟨0,List.replicate l.length 0,by omega,by omega,by simp,?_⟩ ?_
  ·exact BF
  intro n σ hI
  obtain ⟨i,cur,hn,hi0,hcur,hw⟩:=hI
  refine A8 hw ?_
  clear hw
  have hcl:cur.length=l.length:=by rw [hcur];simp;omega
  by_cases hi:i<l.length
  ·obtain ⟨x,hx,hx'⟩:=Ge hi
   have bi:=AS (k:= .i64) (decide_eq_true (show (i:Int)<(l.length:Int) by omega))
   have hin:=BW (k:= .i64) (show (IntKind.i64).wrap ((i:Int)+1)=((i+1:Nat):Int) from IntWalk.i64_in _ (by omega))
   have hlt:(0:Int)≤((i:Nat):Int)∧((i:Nat):Int)<(l.length:Nat):=by omega
   have hst:((i:Nat):Int).toNat*3+3≤(Ao (nmD J) cur).length:=by rw [Av (n:=3) inferInstance,hcl,Int.toNat_natCast];omega
   have M3:=GJ (j:=js) (k:=j) (x:=S) (y:=x) (by omega) (by omega)
   repeat (first|refine Ag ?_|refine Ac ?_|refine Aa rfl ?_|refine Ab rfl ?_|refine Am ?_|refine An ?_|refine Ad ?_|refine Ae ?_)
   refine ⟨n-1,by omega,i+1,cur.set i (S*x),by omega,by omega,?_,?_⟩
   ·rw [hcur,show S*x=h x by rw [hh]];exact Vx rfl hx'
   ·exact BF
  ·have bi:=AS (k:= .i64) (decide_eq_false (show ¬(i:Int)<(l.length:Int) by omega))
   have he:cur=l.map h:=by rw [hcur,List.take_of_length_le (by omega),show l.length-i=0 by omega];simp
   subst he
   repeat (first|refine Ag ?_|refine Ac ?_|refine Aa rfl ?_|refine Ab rfl ?_|refine Am ?_|refine An ?_|refine Ad ?_|refine Ae ?_)
   refine Ap (And.intro (Or.inr rfl) (Xo ?_ (hE:=by exact Ent.tup rfl (EntT.cons (Ent.one' rfl (Af.glLen (by simp))) rfl rfl (EntT.cons (Ent.of_eq rfl) rfl rfl EntT.nil)))))
   exact List.forall_mem_cons.2 ⟨.inl (AN inferInstance),Ak⟩
theorem Jo {j J n:Nat} {l:List Rat} (hl:l.length=n+1) (hn:n≤60) (hj:j≤100000) (hr: ∀r∈l,RSz j r) (hJ:(n+1)*j+2+j+2≤J):
  C7 Tryz.prog Amb 164 [.one (AH j l)] [] [(26,Ao (nmD J) (tab (n+1) fun i=>whS Cy l*l.getD i 0))] (.tup [.one (.gl 26 (n+1) 3),nm ((n+1)*j+2) (whS Cy l)]):=by
 have h:=Vz (J:=J) (l:=l) (by omega) (by omega) hj hr (by rw [hl];exact hJ)
 have e:(l.map fun r=>whS Cy l*r)=tab (n+1) fun i=>whS Cy l*l.getD i 0:=by rw [VV (fun r=>whS Cy l*r) 0 l,hl]
 rw [e,BC,hl] at h
 exact h
end Go.Proofs.YtfineedhebhpaaaGreatDoor
