/-
  Several texts in one: Zt, Zu.
-/
import Derived.Test.YtnkobfcnflphkaaGreatDoorHt
namespace Go.Proofs.YtnkobfcnflphkaaGreatDoor
open List renaming getElem?_eq_getElem→Zd
open Go.RowKit
set_option linter.unusedVariables false
set_option linter.unusedSimpArgs false
set_option maxRecDepth 20000
set_option maxHeartbeats 4000000
theorem IE {f g:Nat→Rat} {d:Nat} (h: ∀q,q≤d→f q=g q): ∀e k,k≤d+e→BM f d e k=BM g d e k
 | 0,k,hk=>h k (by omega)
 | e+1,k,hk=>by
   show CY (BM f d e) (d+e+1) k=CY (BM g d e) (d+e+1) k
   exact F6 (by omega) (by omega) fun q hq=>IE h e q (by omega)
theorem D3 (c:Rat) (f:Nat→Rat) (d:Nat): ∀e k,BM (fun i=>c*f i) d e k=c*BM f d e k
 | 0,k=>rfl
 | e+1,k=>by
   show CY (BM (fun i=>c*f i) d e) (d+e+1) k=c*CY (BM f d e) (d+e+1) k
   unfold CY
   by_cases h0:k=0
   ·rw [if_pos h0,if_pos h0,D3 c f d e]
   ·rw [if_neg h0,if_neg h0]
    by_cases h1:k=d+e+1
    ·rw [if_pos h1,if_pos h1,D3 c f d e]
    ·rw [if_neg h1,if_neg h1,D3 c f d e,D3 c f d e]
     grind
theorem VV {js j d:Nat} {l:List Rat} {s:Rat} (hl:l.length=d+1) (hd:d≤1000) (h1:js≤10000000) (h2:j≤10000000):
  Ctr Tryz.prog Amb 150 [nm js s,.one (Ap j l)] (.one (Cs (js+j+2) (d+1) fun i=>s*cf l i)):=by
 obtain ⟨R,hR⟩: ∃R,R=tab (d+1) fun i=>s*cf l i:=⟨_,rfl⟩
 unfold Cs
 rw [←hR]
 refine Am Tryz.func150 rfl rfl rfl rfl rfl rfl ?_
 intro W0 base D μ0 hA hD
 repeat (first|refine Af ?_|refine Ac ?_|refine Aa rfl ?_|refine Ab rfl ?_|refine Ak ?_|refine Al ?_|refine Ad ?_|refine Ae ?_)
 rw [hl]
 refine AK (fun m σ=> ∃(i:Nat) (cur:List Rat),m=d+1-i∧i≤d+1∧cur=tab (d+1) (fun q=>if q<i then s*cf l q else 0)∧Wk ⟨W0,base,D,26,[],μ0⟩ σ [(1,.one (Ap j l)),(2,.one (.ptr 2 0)),(5,.one (.gl 9 (d+1) 3)),(6,At (i:Nat))] [(2,nmC js s),(9,An (nmD (js+j+2)) cur)]) (n:=d+1) ⟨0,List.replicate (d+1) 0,by omega,by omega,Ee.trans (Ax fun q _=>(if_neg (Nat.not_lt_zero q)).symm),?_⟩ ?_
 ·exact AS
 intro m σ hI
 obtain ⟨i,cur,hm,hi0,hcur,hw⟩:=hI
 refine A5 hw ?_
 clear hw
 have hcl:cur.length=d+1:=by rw [hcur];simp
 by_cases hi:i<d+1
 ·have bi:=AJ (k:= .i64) (decide_eq_true (show (i:Int)<(l.length:Int) by omega))
  have hin:=AL (k:= .i64) (show (IntKind.i64).wrap ((i:Int)+1)=((i+1:Nat):Int) from IntWalk.i64_in _ (by omega))
  have hx:l[((i:Nat):Int).toNat]?=some (cf l i):=FH (by omega)
  have hlt:(0:Int)≤((i:Nat):Int)∧((i:Nat):Int)<((d+1:Nat):Int):=by omega
  have hst:((i:Nat):Int).toNat*3+3≤(An (nmD (js+j+2)) cur).length:=by rw [AA (n:=3) inferInstance,hcl,Int.toNat_natCast];omega
  have M1:=Nw (j:=js) (k:=j) (x:=s) (y:=cf l i) (by omega) (by omega)
  have ht:cur.set i (s*cf l i)=tab (d+1) (fun q=>if q<i+1 then s*cf l q else 0):=by
   rw [hcur]
   refine Cm hi (if_pos (by omega)) fun q hq hqi=>?_
   by_cases h1:q<i
   ·rw [if_pos h1,if_pos (by omega)]
   ·rw [if_neg h1,if_neg (by omega)]
  generalize cf l i=x at*
  repeat (first|refine Af ?_|refine Ac ?_|refine Aa rfl ?_|refine Ab rfl ?_|refine Ak ?_|refine Al ?_|refine Ad ?_|refine Ae ?_)
  refine ⟨m-1,by omega,i+1,cur.set i (s*x),by omega,by omega,ht,?_⟩
  exact AS
 ·have bi:=AJ (k:= .i64) (decide_eq_false (show ¬(i:Int)<(l.length:Int) by omega))
  have he:cur=R:=by rw [hcur,hR];exact Ax fun q hq=>if_pos (by omega)
  subst he
  rw [←hcl]
  repeat (first|refine Af ?_|refine Ac ?_|refine Aa rfl ?_|refine Ab rfl ?_|refine Ak ?_|refine Al ?_|refine Ad ?_|refine Ae ?_)
  refine BG 9 hD (ss:= [(4,.one (Ap (js+j+2) cur))]) (bs:= []) ?_ ?_
  ·exact In
  refine As (And.intro (Or.inr rfl) ?_)
  exact AX
theorem WZ {m i:Nat} {a b:Nat→Rat} (hi:i<m):(tab m fun q=>if q<i then a q+b q else a q).set i (a i+b i)=tab m fun q=>if q<i+1 then a q+b q else a q:=
 Cm hi (if_pos (by omega)) fun q hq hqi=>by
  by_cases h:q<i
  ·rw [if_pos h,if_pos (by omega)]
  ·rw [if_neg h,if_neg (by omega)]
theorem XK {j k d e J:Nat} {p q:List Rat} (hp:p.length=d+1) (hq:q.length=e+1) (hd:d≤40) (he:e≤40) (hj:j≤J) (hk:k≤J) (hJ:J≤400000) (hz: ∀c,d+c≤40→ ∀k,k≤d+c→RSz J (BM (cf p) d c k)) (hz2: ∀c,e+c≤40→ ∀k,k≤e+c→RSz J (BM (cf q) e c k)):
  Ctr Tryz.prog Amb 149 [.one (Ap j p),.one (Ap k q)] (.one (Cs (J+J+1) (max d e+1) (DZ (· + ·) (cf p) (cf q) d e))):=by
 obtain ⟨N,hN⟩: ∃N,N=max d e:=⟨_,rfl⟩
 have E1:=Ia (j:=j) (d:=d) (n:=N) (J:=J) hp (by omega) (by omega) hj (by omega) hz
 have E2:=Ia (j:=k) (d:=e) (n:=N) (J:=J) hq (by omega) (by omega) hk (by omega) hz2
 obtain ⟨a,ha⟩: ∃a:Nat→Rat,a=BM (cf p) d (N-d):=⟨_,rfl⟩
 obtain ⟨b,hb⟩: ∃b:Nat→Rat,b=BM (cf q) e (N-e):=⟨_,rfl⟩
 have za: ∀i,i≤N→RSz J (a i):=fun i hi=>by rw [ha];exact hz (N-d) (by omega) i (by omega)
 have zb: ∀i,i≤N→RSz J (b i):=fun i hi=>by rw [hb];exact hz2 (N-e) (by omega) i (by omega)
 rw [←ha] at E1
 rw [←hb] at E2
 have hR':DZ (· + ·) (cf p) (cf q) d e=fun i=>a i+b i:=funext fun i=>by unfold DZ;rw [ha,hb,hN]
 rw [hR',←hN]
 clear ha hb hz hz2 hR'
 obtain ⟨A,hA1⟩: ∃A,A=tab (N+1) a:=⟨_,rfl⟩
 obtain ⟨B,hB1⟩: ∃B,B=tab (N+1) b:=⟨_,rfl⟩
 obtain ⟨R,hR⟩: ∃R,R=tab (N+1) fun i=>a i+b i:=⟨_,rfl⟩
 rw [←hA1] at E1
 rw [←hB1] at E2
 unfold Cs
 rw [←hR]
 have hAl:A.length=N+1:=by rw [hA1];simp
 have hBl:B.length=N+1:=by rw [hB1];simp
 have X2:Cy Tryz.prog Amb 24 [.one (Ap k q),At (N:Nat)] [] [(121,An (nmD J) B)] (.tup [.one (.gl 121 (N+1) 3),At 0]):=E2.at1 rfl (I6 _) 121
 clear E2
 have hbl1:0<(An (nmD J) A).length:=Cb (n:=3) inferInstance (by decide) (by omega)
 have hbl2:0<(An (nmD J) B).length:=Cb (n:=3) inferInstance (by decide) (by omega)
 have hmx:(if (p.length:Int)<(q.length:Int) then (q.length:Int) else (p.length:Int))=((N+1:Nat):Int):=by split<;>omega
 have w1:=BI (k:= .i64) (show (IntKind.i64).wrap (((N+1:Nat):Int)-1)=(N:Int) by rw [show (((N+1:Nat):Int)-1)=(N:Int) by omega];exact IntWalk.i64_in _ (by omega))
 refine Am Tryz.func149 rfl rfl rfl rfl rfl rfl ?_
 intro W0 base D μ0 hA hD
 repeat (first|refine Af ?_|refine Ac ?_|refine Aa rfl ?_|refine Ab rfl ?_|refine Ak ?_|refine Al ?_|refine Ad ?_|refine Ae ?_)
 refine BG 121 hD (ss:= [(6,.one (.gl 21 (N+1) 3)),(8,.one (Ap J B)),(10,At (0:Nat))]) (bs:= [(21,An (nmD J) A)]) ?_ ?_
 ·rw [←hBl]
  exact In
 have hsz: ∀i,i≤N→RSz (J+J+1) (a i+b i):=fun i hi=>(za i hi).add (zb i hi)
 refine AK (fun m σ=> ∃(i:Nat) (cur:List Rat),m=N+1-i∧i≤N+1∧cur=tab (N+1) (fun q=>if q<i then a q+b q else a q)∧Wk ⟨W0,base,D,48,[],μ0⟩ σ [(6,.one (.gl 21 (N+1) 3)),(8,.one (Ap J B)),(10,At (i:Nat))] [(21,An (nmD (J+J+1)) cur)]) (n:=N+1) ⟨0,A,by omega,by omega,hA1.trans (Ax fun q _=>(if_neg (Nat.not_lt_zero q)).symm),?_⟩ ?_
 ·refine Dr ?_ ?_ rfl
  ·exact GY
  ·repeat (first|exact Aq|(refine List.forall_mem_cons.2 ⟨?_,?_⟩;focus (first|exact AN inferInstance|(exact Yk (j:=J) (by omega) (AN inferInstance))|(refine BB rfl ?_ rfl;focus (exact BQ;done)))))
 intro m σ hI
 obtain ⟨i,cur,hm,hi0,hcur,hw⟩:=hI
 refine A5 hw ?_
 clear hw
 have hcl:cur.length=N+1:=by rw [hcur];simp
 by_cases hi:i<N+1
 ·have bi:=AJ (k:= .i64) (decide_eq_true (show (i:Int)<((N+1:Nat):Int) by omega))
  have hin:=AL (k:= .i64) (show (IntKind.i64).wrap ((i:Int)+1)=((i+1:Nat):Int) from IntWalk.i64_in _ (by omega))
  have hx:cur[((i:Nat):Int).toNat]?=some (a i):=by rw [hcur,A8 hi,if_neg (Nat.lt_irrefl i)]
  have hy:B[((i:Nat):Int).toNat]?=some (b i):=by rw [hB1];exact A8 hi
  have hlt:(0:Int)≤((i:Nat):Int)∧((i:Nat):Int)<((N+1:Nat):Int):=by omega
  have hst:((i:Nat):Int).toNat*3+3≤(An (nmD (J+J+1)) cur).length:=by rw [AA (n:=3) inferInstance,hcl,Int.toNat_natCast];omega
  have ld:=Ca (f:=nmD (J+J+1)) (n:=3) inferInstance hx
  have A4:=TT (j:=J+J+1) (k:=J) (x:=a i) (y:=b i) (by omega) (by omega)
  have ht:=WZ (a:=a) (b:=b) hi
  rw [←hcur] at ht
  have hz1:=hsz i (by omega)
  generalize a i=x at*
  generalize b i=y at*
  repeat (first|refine Af ?_|refine Ac ?_|refine Aa rfl ?_|refine Ab rfl ?_|refine Ak ?_|refine Al ?_|refine Ad ?_|refine Ae ?_)
  refine ⟨m-1,by omega,i+1,cur.set i (x+y),by omega,by omega,ht,?_⟩
  exact AS
 ·have bi:=AJ (k:= .i64) (decide_eq_false (show ¬(i:Int)<((N+1:Nat):Int) by omega))
  have he:cur=R:=by rw [hcur,hR];exact Ax fun q hq=>if_pos (by omega)
  subst he
  repeat (first|refine Af ?_|refine Ac ?_|refine Aa rfl ?_|refine Ab rfl ?_|refine Ak ?_|refine Al ?_|refine Ad ?_|refine Ae ?_)
  refine BG 21 hD (ss:= [(4,.one (Ap (J+J+1) cur))]) (bs:= []) ?_ ?_
  ·rw [←hcl]
   exact In
  refine As (And.intro (Or.inr rfl) ?_)
  exact AX
theorem Pa {j:Nat} {l:List Rat} {d:Nat} {c:Rat} (hc:RSz 1 c) (hr: ∀r∈l,RSz j r) (hl:l.length=d+1): ∀r∈tab (d+1) fun i=>c*cf l i,RSz (j+1) r:=fun r hr'=>by
 obtain ⟨i,hi,rfl⟩:=List.mem_map.1 hr'
 have hlt:i<l.length:=by have:=List.mem_range.1 hi;omega
 have h1:cf l i∈l:=by
  unfold cf
  rw [List.getD_eq_getElem?_getD,Zd hlt];exact List.getElem_mem hlt
 exact (hc.mul (hr _ h1)).mono (by omega)
theorem XG {j d e J:Nat} {p q:List Rat} (hp:p.length=d+1) (hq:q.length=e+1) (hd:d≤40) (he:e≤40) (hr: ∀r∈p,RSz j r) (hr2: ∀r∈q,RSz j r) (hJ:J≤400000) (hj:20+42*(j+4)≤J):
  Ctr Tryz.prog Amb 112 [.one (Ap j p),.one (Ap j q)] (.one (Cs (J+J+1) (max d e+1) (DZ (· - ·) (cf p) (cf q) d e))):=by
 have I1:=QJ (n:= -1) rfl
 have hm1:((-1:Int):Rat)= -1:=rfl
 have S1:=VV (js:=2) (j:=j) (d:=e) (l:=q) (s:=((-1:Int):Rat)) hq (by omega) (by omega) (by omega)
 have hN1:RSz 1 ((-1:Int):Rat):=⟨Aj _ _ (by decide+kernel),Aj _ _ (by decide+kernel)⟩
 have hb1: ∀x,x≤41→x*j≤41*j:=fun x hx=>Nat.mul_le_mul_right j hx
 have hb2: ∀x,x≤41→x*(j+1)≤41*(j+1):=fun x hx=>Nat.mul_le_mul_right (j+1) hx
 have hs:=Pa (c:=((-1:Int):Rat)) hN1 hr2 hq
 have A1:=XK (j:=j) (k:=2+j+2) (d:=d) (e:=e) (J:=J) (p:=p) (q:=tab (e+1) fun i=>((-1:Int):Rat)*cf q i) hp Ef hd he (by omega) (by omega) hJ (fun c hc k hk=>(Hk hp hc hr k hk).mono (by have:=hb1 (d+1) (by omega);omega)) (fun c hc k hk=>(Hk Ef hc hs k hk).mono (by have:=hb2 (e+1) (by omega);omega))
 have e1:tab (max d e+1) (DZ (· + ·) (cf p) (cf (tab (e+1) fun i=>((-1:Int):Rat)*cf q i)) d e)=tab (max d e+1) (DZ (· - ·) (cf p) (cf q) d e):=Ax fun i hi=>by
  unfold DZ
  have h1:BM (cf (tab (e+1) fun i=>((-1:Int):Rat)*cf q i)) e (max d e-e) i=((-1:Int):Rat)*BM (cf q) e (max d e-e) i:=by
   rw [←D3]
   exact IE (fun q hq=>Ff 0 (by omega)) _ _ (by omega)
  show _+_=_-_
  rw [h1,hm1]
  grind
 unfold Cs at A1 S1⊢
 rw [e1] at A1
 generalize tab (max d e+1) (DZ (· - ·) (cf p) (cf q) d e)=R at*
 generalize (tab (e+1) fun i=>((-1:Int):Rat)*cf q i)=T at*
 generalize ((-1:Int):Rat)=c at*
 clear e1
 refine Am Tryz.func112 rfl rfl rfl rfl rfl rfl ?_
 intro W0 base D μ0 hA hD
 repeat (first|refine Af ?_|refine Ac ?_|refine Aa rfl ?_|refine Ab rfl ?_|refine Ak ?_|refine Al ?_|refine Ad ?_|refine Ae ?_)
 refine As (And.intro (Or.inr rfl) ?_)
 exact AX
end Go.Proofs.YtnkobfcnflphkaaGreatDoor
