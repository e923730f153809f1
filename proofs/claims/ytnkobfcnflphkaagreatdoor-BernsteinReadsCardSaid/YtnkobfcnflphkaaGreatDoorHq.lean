/-
  Several texts in one: Zaa, Zab.
-/
import Derived.Test.YtnkobfcnflphkaaGreatDoorHu
import Derived.Test.YtnkobfcnflphkaaGreatDoorHz
namespace Go.Proofs.YtnkobfcnflphkaaGreatDoor
open List renaming getElem?_eq_getElem→Zd
open Nat renaming le_refl→Zc
set_option maxHeartbeats 16000000
open Go.RowKit
set_option linter.unusedVariables false
set_option linter.unusedSimpArgs false
set_option maxRecDepth 20000
theorem JV {b n:Nat} {f:Nat→Rat} (hf: ∀i,i≤n→IZ b (f i)): ∀k i,k+i≤n→IZ (b+k) (CF f k i)
 | 0,i,h=>hf i (by omega)
 | k+1,i,h=>(JV hf k (i+1) (by omega)).sub (JV hf k i (by omega))
theorem Ye {b n o i q:Nat} {f:Nat→Rat} (hf: ∀i,i≤n→IZ b (f i)) (ho:o≤n) (hoi:o≤i) (hq:q≤n):IZ (b+n+1) (dfI f o i q):=by
 unfold dfI
 by_cases h1:i<q
 ·rw [if_pos h1];exact (JV hf (o+1) (q-(o+1)) (by omega)).mono (by omega)
 ·rw [if_neg h1]
  by_cases h2:q≤o
  ·rw [if_pos h2];exact (JV hf q 0 (by omega)).mono (by omega)
  ·rw [if_neg h2];exact (JV hf o (q-o) (by omega)).mono (by omega)
theorem Lz {b n:Nat} {f:Nat→Rat} (hf: ∀i,i≤n→IZ b (f i)): ∀d m,m+d≤n→IZ (b+d) (Dp f m d)
 | 0,m,h=>hf m (by omega)
 | d+1,m,h=>IZ.add (Lz hf d m (by omega)) (Lz hf d (m+1) (by omega)) (by omega)
theorem XN {b n o i q:Nat} {f:Nat→Rat} (hf: ∀i,i≤n→IZ b (f i)) (ho:0<o) (hq:q≤n):IZ (b+n+1) (smI f o i q):=by
 unfold smI
 by_cases h1:q<o
 ·rw [if_pos h1];exact (hf q hq).mono (by omega)
 ·rw [if_neg h1]
  by_cases h2:q<i
  ·rw [if_pos h2];exact (Lz hf (q-o+1) (o-1) (by omega)).mono (by omega)
  ·rw [if_neg h2];exact (Lz hf (q-o) o (by omega)).mono (by omega)
theorem V9 {ja js jw i:Nat} {l m:List Rat} {x y s:Rat} (hx:l[((i:Nat):Int).toNat]?=some x) (hy:m[((i:Nat):Int).toNat]?=some y) (h1:ja≤10000000) (h2:js≤10000000) (h3:jw≤10000000) (h0:s≠0):
  BF Tryz.prog Amb 109 [At (i:Nat),.one (.ptr 901 0),.one (.ptr 902 0),.one (.ptr 903 0)] [(901,[Ap ja l],[Ap ja l]),(902,[Ap jw m],[Ap jw m]),(903,nmC js s,nmC js s)] (nm (ja+jw+2+js+2) (x*y/s)):=by
 have M1:=FP (j:=ja) (k:=jw) (x:=x) (y:=y) (by omega) (by omega)
 have O1:=GI (j:=ja+jw+2) (k:=js) (x:=x*y) (y:=s) (by omega) (by omega) h0
 apply Am Tryz.func109 rfl rfl rfl rfl rfl
 case hin=>simp [inA,inC]
 intro W0 base D μ0 hA hD
 repeat (first|refine Af ?_|refine Ac ?_|refine Aa rfl ?_|refine Ab rfl ?_|refine Ak ?_|refine Al ?_|refine Ad ?_|refine Ae ?_)
 refine As (And.intro (Or.inr rfl) ?_)
 exact PY (hb:=by repeat (first|exact Aq|refine List.forall_mem_cons.2 ⟨⟨rfl,rfl,rfl⟩,?_⟩))
theorem Jp {j n:Nat} {p:List Rat} (hp:p.length=n+1) (hn:n≤40) (hj:j≤10000) (hr: ∀r∈p,RSz j r):
  Ctr Tryz.prog Amb 33 [.one (Ap j p)] (.one (Cs 5000000 (n+1) (EP (cf p) n))):=by
 have hNA:(n+1)*j≤41*10000:=Nat.mul_le_mul (by omega) hj
 obtain ⟨J,hJ⟩: ∃J,J=1000000:=⟨_,rfl⟩
 obtain ⟨M,hM0,_,hMS,hMsz,hint⟩:=Dy p 1 2 (by decide) (Aj _ _ (by decide)) hr
 have P1:=Dd (j:=j) (l:=p) (by omega) (by omega)
 have W1:=FW (J:=J) hp (by omega) (by omega) hr (by omega)
 obtain ⟨S,hS⟩: ∃S,S=whS DP p:=⟨_,rfl⟩
 rw [←hS] at W1
 have hSM:S=((M:Int):Rat):=hS.trans hMS
 have hS0:S≠0:=by rw [hSM];exact FE hM0
 rw [hp] at hMsz
 obtain ⟨a,ha⟩: ∃a:Nat→Rat,a=fun i=>S*cf p i:=⟨_,rfl⟩
 have hva: ∀k,CF a k 0*AF n k/S=EP (cf p) n k:=fun k=>by rw [ha];exact MU hS0
 have iz: ∀i,i≤n→IZ 900000 (a i):=fun i hi=>by
  have h1:cf p i∈p:=by
   have hlt:i<p.length:=by omega
   unfold cf
   rw [List.getD_eq_getElem?_getD,Zd hlt];exact List.getElem_mem hlt
  rw [ha,hSM]
  exact (IZ.scaled hMsz (hr _ h1) (hint _ h1)).mono (by omega)
 have hcz: ∀o i q,o≤n→o≤i→q≤n→RSz J (dfI a o i q):=fun o i q h1 h2 h3=>((Ye iz h1 h2 h3).rsz (by omega)).mono (by omega)
 have W1':Cy Tryz.prog Amb 100 [.one (Ap j p)] [] [(26,An (nmD J) (tab (n+1) a))] (.tup [.one (.gl 26 (n+1) 3),nm ((n+1)*j+2) S]):=by rw [ha];exact W1
 clear W1 ha hint hMS hS hSM hM0 hMsz hr iz
 obtain ⟨js,hjs⟩: ∃js,js=(n+1)*j+2:=⟨_,rfl⟩
 rw [←hjs] at W1'
 have Bi:=ES (n:=n) (by omega)
 have B1:=Y6 (g:=109) (n:=n) (J:=5000000) (h:=EP (cf p) n) (c0:=Ap J (tab (n+1) fun q=>CF a q 0)) (c1:=Ap 2 (tab (n+1) (AF n))) (c2:= .q S js 0) (c3:= .q S js 1) (c4:= .q S js 2) rfl rfl rfl rfl rfl rfl rfl rfl rfl rfl (k1:=4) (k2:=8) (k3:=5) (by omega) (fun i hi=>by
  rw [←hva i]
  have h:=V9 (ja:=J) (js:=js) (jw:=2) (i:=i) (l:=tab (n+1) fun q=>CF a q 0) (m:=tab (n+1) (AF n)) (s:=S) (A8 (by omega)) (A8 (by omega)) (by omega) (by omega) (by omega) hS0
  exact BF.weak h (Ents.of_eq rfl) (Ent.agg (.cons (.q rfl (by omega)) (.cons (.q rfl (by omega)) (.cons (.q rfl (by omega)) .nil))))) (by decide)
 obtain ⟨R0,hR0⟩: ∃R0,R0=tab (n+1) (EP (cf p) n):=⟨_,rfl⟩
 obtain ⟨A,hA1⟩: ∃A,A=tab (n+1) a:=⟨_,rfl⟩
 obtain ⟨C,hC1⟩: ∃C,C=tab (n+1) fun q=>CF a q 0:=⟨_,rfl⟩
 obtain ⟨G,hG1⟩: ∃G,G=tab (n+1) (AF n):=⟨_,rfl⟩
 unfold Cs at B1 Bi⊢
 rw [←hR0] at B1⊢
 rw [←hA1] at W1'
 rw [←hC1,←hG1] at B1
 rw [←hG1] at Bi
 have hAl:A.length=n+1:=by rw [hA1];simp
 have hbl:0<(An (nmD J) A).length:=Cb (n:=3) inferInstance (by decide) (by omega)
 clear hR0 hG1 hva hS0
 have e1:=BI (k:= .i64) (show (IntKind.i64).wrap ((p.length:Int)-1)=(n:Int) by rw [show ((p.length:Int)-1)=(n:Int) by omega];exact IntWalk.i64_in _ (by omega))
 refine Am Tryz.func33 rfl rfl rfl rfl rfl rfl ?_
 intro W0 base D μ0 hA hD
 repeat (first|refine Af ?_|refine Ac ?_|refine Aa rfl ?_|refine Ab rfl ?_|refine Ak ?_|refine Al ?_|refine Ad ?_|refine Ae ?_)
 refine AK (fun c σ=> ∃(o:Nat) (cur:List Rat),c=n-o∧o≤n∧cur=tab (n+1) (dfI a o n)∧Wk ⟨W0,base,D,49,[],μ0⟩ σ [(3,At (n:Nat)),(4,.one (.ptr 4 0)),(5,.one (.ptr 5 0)),(20,At (n:Nat)),(21,At (o:Nat))] [(4,[.gl 26 (n+1) 3]),(5,nmC js S),(26,An (nmD J) cur)]) (n:=n) ⟨0,A,by omega,by omega,hA1.trans SI.symm,?_⟩ ?_
 ·exact AS
 intro c σ hI
 obtain ⟨o,cur,hc,ho0,hcur,hw⟩:=hI
 refine A5 hw ?_
 clear hw
 by_cases ho:o<n
 ·have bo:=AJ (k:= .i64) (decide_eq_true (show (o:Int)<(n:Int) by omega))
  have hon:=AL (k:= .i64) (show (IntKind.i64).wrap ((o:Int)+1)=((o+1:Nat):Int) from IntWalk.i64_in _ (by omega))
  repeat (first|refine Af ?_|refine Ac ?_|refine Aa rfl ?_|refine Ab rfl ?_|refine Ak ?_|refine Al ?_|refine Ad ?_|refine Ae ?_)
  refine AK (fun c σ=> ∃(i:Nat) (cur:List Rat),c=i-o∧o≤i∧i≤n∧cur=tab (n+1) (dfI a o i)∧Wk ⟨W0,base,D,49,[],μ0⟩ σ [(3,At (n:Nat)),(4,.one (.ptr 4 0)),(5,.one (.ptr 5 0)),(6,At (o:Nat)),(7,At (i:Nat)),(20,At (n:Nat)),(21,At (o:Nat))] [(4,[.gl 26 (n+1) 3]),(5,nmC js S),(26,An (nmD J) cur)]) (n:=n-o) ⟨n,cur,rfl,by omega,Zc _,hcur,?_⟩ ?_
  ·exact AS
  clear hcur cur
  intro c2 σ hI
  obtain ⟨i,cur,hc2,hoi,hin,hcur,hw⟩:=hI
  refine A5 hw ?_
  clear hw
  have hcl:cur.length=n+1:=by rw [hcur];simp
  by_cases hi:o<i
  ·obtain ⟨q,rfl⟩: ∃q,i=q+1:=⟨i-1,by omega⟩
   have bi:=DH (k:= .i64) (decide_eq_true (show ((q+1:Nat):Int)>(o:Int) by omega))
   have hdn:=BI (k:= .i64) (show (IntKind.i64).wrap (((q+1:Nat):Int)-1)=(q:Int) by rw [show (((q+1:Nat):Int)-1)=(q:Int) by omega];exact IntWalk.i64_in _ (by omega))
   have hx:cur[((q+1:Nat):Int).toNat]?=some (dfI a o (q+1) (q+1)):=by rw [hcur];exact A8 (by omega)
   have hy:cur[((q:Nat):Int).toNat]?=some (dfI a o (q+1) q):=by rw [hcur];exact A8 (by omega)
   have ht:=WH (f:=a) (n:=n) hi hin rfl
   rw [Nat.add_sub_cancel,←hcur] at ht
   have hz:RSz J (dfI a o (q+1) (q+1)-dfI a o (q+1) q):=by
    have e:dfI a o (q+1) (q+1)-dfI a o (q+1) q=dfI a o q (q+1):=by
     have h2:=congrArg (fun l=>l[q+1]?) ht
     try dsimp only at h2
     rw [List.getElem?_set_self (by omega),Dm (by omega)] at h2
     exact Option.some.inj h2
    rw [e];exact hcz o q (q+1) (by omega) (by omega) (by omega)
   have lt1:(0:Int)≤((q+1:Nat):Int)∧((q+1:Nat):Int)<((n+1:Nat):Int):=by omega
   have lt2:(0:Int)≤((q:Nat):Int)∧((q:Nat):Int)<((n+1:Nat):Int):=by omega
   have st1:((q+1:Nat):Int).toNat*3+3≤(An (nmD J) cur).length:=by rw [AA (n:=3) inferInstance,hcl,Int.toNat_natCast];omega
   have st2:((q:Nat):Int).toNat*3+3≤(An (nmD J) cur).length:=by rw [AA (n:=3) inferInstance,hcl,Int.toNat_natCast];omega
   have ld1:=Ca (f:=nmD J) (n:=3) inferInstance hx
   have ld2:=Ca (f:=nmD J) (n:=3) inferInstance hy
   have D4:=Vi (j:=J) (k:=J) (x:=dfI a o (q+1) (q+1)) (y:=dfI a o (q+1) q) (by omega) (by omega)
   generalize dfI a o (q+1) (q+1)=x at*
   generalize dfI a o (q+1) q=y at*
   repeat (first|refine Af ?_|refine Ac ?_|refine Aa rfl ?_|refine Ab rfl ?_|refine Ak ?_|refine Al ?_|refine Ad ?_|refine Ae ?_)
   refine ⟨c2-1,by omega,q,cur.set (q+1) (x-y),by omega,by omega,by omega,ht,?_⟩
   exact AS
  ·have bi:=DH (k:= .i64) (decide_eq_false (show ¬(i:Int)>(o:Int) by omega))
   obtain rfl:i=o:=by omega
   rw [U0] at hcur
   repeat (first|refine Af ?_|refine Ac ?_|refine Aa rfl ?_|refine Ab rfl ?_|refine Ak ?_|refine Al ?_|refine Ad ?_|refine Ae ?_)
   refine ⟨c-1,by omega,i+1,cur,by omega,by omega,hcur,?_⟩
   exact AS
 ·have bo:=AJ (k:= .i64) (decide_eq_false (show ¬(o:Int)<(n:Int) by omega))
  obtain rfl:o=n:=by omega
  rw [WJ] at hcur
  have he:cur=C:=hcur.trans hC1.symm
  have hCl:C.length=o+1:=by rw [hC1];simp
  subst he
  clear hcur hC1
  repeat (first|refine Af ?_|refine Ac ?_|refine Aa rfl ?_|refine Ab rfl ?_|refine Ak ?_|refine Al ?_|refine Ad ?_|refine Ae ?_)
  refine BG 26 hD (ss:= [(3,At (o:Nat)),(4,.one (.ptr 4 0)),(5,.one (.ptr 5 0)),(8,.one (.ptr 8 0))]) (bs:= [(4,[Ap J cur]),(5,nmC js S),(8,[Ap 2 G])]) ?_ ?_
  ·exact UK
  repeat (first|refine Af ?_|refine Ac ?_|refine Aa rfl ?_|refine Ab rfl ?_|refine Ak ?_|refine Al ?_|refine Ad ?_|refine Ae ?_)
  refine As (And.intro (Or.inr rfl) ?_)
  exact AX
theorem We {ja jw i:Nat} {l m:List Rat} {x y:Rat} (hx:l[((i:Nat):Int).toNat]?=some x) (hy:m[((i:Nat):Int).toNat]?=some y) (h1:ja≤10000000) (h3:jw≤10000000) (h0:y≠0):
  BF Tryz.prog Amb 102 [At (i:Nat),.one (.ptr 901 0),.one (.ptr 902 0)] [(901,[Ap ja l],[Ap ja l]),(902,[Ap jw m],[Ap jw m])] (nm (ja+jw+2) (x/y)):=by
 have O1:=GI (j:=ja) (k:=jw) (x:=x) (y:=y) (by omega) (by omega) h0
 apply Am Tryz.func102 rfl rfl rfl rfl rfl
 case hin=>simp [inA,inC]
 intro W0 base D μ0 hA hD
 repeat (first|refine Af ?_|refine Ac ?_|refine Aa rfl ?_|refine Ab rfl ?_|refine Ak ?_|refine Al ?_|refine Ad ?_|refine Ae ?_)
 refine As (And.intro (Or.inr rfl) ?_)
 exact PY (hb:=by repeat (first|exact Aq|refine List.forall_mem_cons.2 ⟨⟨rfl,rfl,rfl⟩,?_⟩))
theorem Wd {ja js i:Nat} {l:List Rat} {x s:Rat} (hx:l[((i:Nat):Int).toNat]?=some x) (h1:ja≤10000000) (h2:js≤10000000) (h0:s≠0):
  BF Tryz.prog Amb 105 [At (i:Nat),.one (.ptr 901 0),.one (.ptr 902 0)] [(901,[Ap ja l],[Ap ja l]),(902,nmC js s,nmC js s)] (nm (ja+js+2) (x/s)):=by
 have O1:=GI (j:=ja) (k:=js) (x:=x) (y:=s) (by omega) (by omega) h0
 apply Am Tryz.func105 rfl rfl rfl rfl rfl
 case hin=>simp [inA,inC]
 intro W0 base D μ0 hA hD
 repeat (first|refine Af ?_|refine Ac ?_|refine Aa rfl ?_|refine Ab rfl ?_|refine Ak ?_|refine Al ?_|refine Ad ?_|refine Ae ?_)
 refine As (And.intro (Or.inr rfl) ?_)
 exact PY (hb:=by repeat (first|exact Aq|refine List.forall_mem_cons.2 ⟨⟨rfl,rfl,rfl⟩,?_⟩))
theorem He {j n:Nat} {p:List Rat} (hp:p.length=n+1) (hn:n≤40) (hj:j≤9000) (hr: ∀r∈p,RSz j r):
  Ctr Tryz.prog Amb 25 [.one (Ap j p)] (.tup [.one (Ap 5000000 (tab (n+1) (DC (cf p) n))),At 0]):=by
 obtain ⟨k,hk⟩: ∃k,k=j+2+2:=⟨_,rfl⟩
 have hNA:(n+1)*k≤41*9100:=Nat.mul_le_mul (by omega) (by omega)
 obtain ⟨J,hJ⟩: ∃J,J=1000000:=⟨_,rfl⟩
 obtain ⟨Q,hQ⟩: ∃Q,Q=tab (n+1) fun i=>cf p i/AF n i:=⟨_,rfl⟩
 have hQl:Q.length=n+1:=by rw [hQ];simp
 have hQr: ∀r∈Q,RSz k r:=fun r hrr=>by
  obtain ⟨i,hi,he⟩:=List.getElem_of_mem hrr
  have h2:Q[i]?=some (cf p i/AF n i):=by rw [hQ];exact Dm (by omega)
  rw [Zd hi,he] at h2
  rw [Option.some.inj h2]
  have h1:cf p i∈p:=by
   have hlt:i<p.length:=by omega
   unfold cf
   rw [List.getD_eq_getElem?_getD,Zd hlt];exact List.getElem_mem hlt
  exact (Gj (hr _ h1) (Fv (n:=n) (k:=i) (by omega)) (Ek (by omega))).mono (by omega)
 obtain ⟨M,hM0,_,hMS,hMsz,hint⟩:=Dy Q 1 2 (by decide) (Aj _ _ (by decide)) hQr
 have P1:=Dd (j:=j) (l:=p) (by omega) (by omega)
 have Bi:=ES (n:=n) (by omega)
 have B0:=b11 (g:=102) (n:=n) (J:=k) (h:=fun i=>cf p i/AF n i) (c0:=Ap j p) (c1:=Ap 2 (tab (n+1) (AF n))) rfl rfl rfl rfl (k1:=1) (k2:=5) (by omega) (fun i hi=>by
  rw [hk]
  exact We (ja:=j) (jw:=2) (i:=i) (l:=p) (m:=tab (n+1) (AF n)) (FH (by omega)) (A8 (by omega)) (by omega) (by omega) (Ek hi)) (by decide)
 have W1:=FW (J:=J) hQl (by omega) (by omega) hQr (by omega)
 obtain ⟨S,hS⟩: ∃S,S=whS DP Q:=⟨_,rfl⟩
 rw [←hS] at W1
 have hSM:S=((M:Int):Rat):=hS.trans hMS
 have hS0:S≠0:=by rw [hSM];exact FE hM0
 rw [hQl] at hMsz
 obtain ⟨a,ha⟩: ∃a:Nat→Rat,a=fun i=>S*Q.getD i 0:=⟨_,rfl⟩
 have hva: ∀i,i≤n→Dp a 0 i/S=DC (cf p) n i:=fun i hi=>by
  rw [←NK hS0]
  congr 1
  refine Fz fun q hq=>?_
  rw [ha,hQ]
  dsimp only
  rw [Ff 0 (by omega)]
 have iz: ∀i,i≤n→IZ 900000 (a i):=fun i hi=>by
  have h1:Q.getD i 0∈Q:=by
   have hlt:i<Q.length:=by omega
   rw [List.getD_eq_getElem?_getD,Zd hlt];exact List.getElem_mem hlt
  rw [ha,hSM]
  exact (IZ.scaled hMsz (hQr _ h1) (hint _ h1)).mono (by omega)
 have hcz: ∀o i q,0<o→q≤n→RSz J (smI a o i q):=fun o i q h1 h3=>((XN iz h1 h3).rsz (by omega)).mono (by omega)
 have W1':Cy Tryz.prog Amb 100 [.one (Ap k Q)] [] [(26,An (nmD J) (tab (n+1) a))] (.tup [.one (.gl 26 (n+1) 3),nm ((n+1)*k+2) S]):=by rw [ha];exact W1
 unfold Cs at B0 Bi
 rw [←hQ] at B0
 clear W1 ha hint hMS hS hSM hM0 hMsz hr iz hQr hQ hk
 obtain ⟨js,hjs⟩: ∃js,js=(n+1)*k+2:=⟨_,rfl⟩
 rw [←hjs] at W1'
 have B1:=b13 (g:=105) (n:=n) (J:=5000000) (h:=DC (cf p) n) (c0:=Ap J (tab (n+1) fun q=>Dp a 0 q)) (c1:= .q S js 0) (c2:= .q S js 1) (c3:= .q S js 2) rfl rfl rfl rfl rfl rfl rfl rfl (k1:=6) (k2:=7) (by omega) (fun i hi=>by
  rw [←hva i hi]
  have h:=Wd (ja:=J) (js:=js) (i:=i) (l:=tab (n+1) fun q=>Dp a 0 q) (s:=S) (A8 (by omega)) (by omega) (by omega) hS0
  exact BF.weak h (Ents.of_eq rfl) (Ent.agg (.cons (.q rfl (by omega)) (.cons (.q rfl (by omega)) (.cons (.q rfl (by omega)) .nil))))) (by decide)
 obtain ⟨R0,hR0⟩: ∃R0,R0=tab (n+1) (DC (cf p) n):=⟨_,rfl⟩
 obtain ⟨A,hA1⟩: ∃A,A=tab (n+1) a:=⟨_,rfl⟩
 obtain ⟨C,hC1⟩: ∃C,C=tab (n+1) fun q=>Dp a 0 q:=⟨_,rfl⟩
 obtain ⟨G,hG1⟩: ∃G,G=tab (n+1) (AF n):=⟨_,rfl⟩
 unfold Cs at B1
 rw [←hR0] at B1⊢
 rw [←hA1] at W1'
 rw [←hC1] at B1
 rw [←hG1] at Bi B0
 have hAl:A.length=n+1:=by rw [hA1];simp
 have hbl:0<(An (nmD J) A).length:=Cb (n:=3) inferInstance (by decide) (by omega)
 clear hR0 hG1 hva hS0
 have e1:=BI (k:= .i64) (show (IntKind.i64).wrap ((p.length:Int)-1)=(n:Int) by rw [show ((p.length:Int)-1)=(n:Int) by omega];exact IntWalk.i64_in _ (by omega))
 refine Am Tryz.func25 rfl rfl rfl rfl rfl rfl ?_
 intro W0 base D μ0 hA hD
 repeat (first|refine Af ?_|refine Ac ?_|refine Aa rfl ?_|refine Ab rfl ?_|refine Ak ?_|refine Al ?_|refine Ad ?_|refine Ae ?_)
 refine AK (fun c σ=> ∃(o:Nat) (cur:List Rat),c=o∧o≤n∧cur=tab (n+1) (smI a o o)∧Wk ⟨W0,base,D,52,[],μ0⟩ σ [(4,At (n:Nat)),(6,.one (.ptr 6 0)),(7,.one (.ptr 7 0)),(8,At (o:Nat))] [(6,[.gl 26 (n+1) 3]),(7,nmC js S),(26,An (nmD J) cur)]) (n:=n) ⟨n,A,rfl,by omega,hA1.trans RO.symm,?_⟩ ?_
 ·exact AS
 intro c σ hI
 obtain ⟨o,cur,hc,ho0,hcur,hw⟩:=hI
 refine A5 hw ?_
 clear hw
 by_cases ho:0<o
 ·obtain ⟨o,rfl⟩: ∃w,o=w+1:=⟨o-1,by omega⟩
  have bo:=DH (k:= .i64) (decide_eq_true (show ((o+1:Nat):Int)>0 by omega))
  have hon:=BI (k:= .i64) (show (IntKind.i64).wrap (((o+1:Nat):Int)-1)=((o:Nat):Int) by rw [show (((o+1:Nat):Int)-1)=(o:Int) by omega];exact IntWalk.i64_in _ (by omega))
  repeat (first|refine Af ?_|refine Ac ?_|refine Aa rfl ?_|refine Ab rfl ?_|refine Ak ?_|refine Al ?_|refine Ad ?_|refine Ae ?_)
  refine AK (fun c σ=> ∃(q:Nat) (cur:List Rat),c=n-q∧o≤q∧q≤n∧cur=tab (n+1) (smI a (o+1) (q+1))∧Wk ⟨W0,base,D,52,[],μ0⟩ σ [(4,At (n:Nat)),(6,.one (.ptr 6 0)),(7,.one (.ptr 7 0)),(8,At ((o+1:Nat):Int)),(9,At ((q+1:Nat):Int))] [(6,[.gl 26 (n+1) 3]),(7,nmC js S),(26,An (nmD J) cur)]) (n:=n-o) ⟨o,cur,rfl,Zc _,by omega,hcur,?_⟩ ?_
  ·exact AS
  clear hcur cur
  intro c2 σ hI
  obtain ⟨q,cur,hc2,hoi,hin,hcur,hw⟩:=hI
  refine A5 hw ?_
  clear hw
  have hcl:cur.length=n+1:=by rw [hcur];simp
  by_cases hi:q<n
  ·have bi:=Gb (k:= .i64) (decide_eq_true (show ((q+1:Nat):Int)≤(n:Int) by omega))
   have hdn:=BI (k:= .i64) (show (IntKind.i64).wrap (((q+1:Nat):Int)-1)=(q:Int) by rw [show (((q+1:Nat):Int)-1)=(q:Int) by omega];exact IntWalk.i64_in _ (by omega))
   have hup:=AL (k:= .i64) (show (IntKind.i64).wrap (((q+1:Nat):Int)+1)=((q+1+1:Nat):Int) from IntWalk.i64_in _ (by omega))
   have hx:cur[((q+1:Nat):Int).toNat]?=some (smI a (o+1) (q+1) (q+1)):=by rw [hcur];exact A8 (by omega)
   have hy:cur[((q:Nat):Int).toNat]?=some (smI a (o+1) (q+1) q):=by rw [hcur];exact A8 (by omega)
   have ht:=V0 (f:=a) (n:=n) (o:=o+1) (i:=q+1) ho (by omega) (by omega) rfl
   rw [Nat.add_sub_cancel,←hcur] at ht
   have hz:RSz J (smI a (o+1) (q+1) (q+1)+smI a (o+1) (q+1) q):=by
    have e:smI a (o+1) (q+1) (q+1)+smI a (o+1) (q+1) q=smI a (o+1) (q+1+1) (q+1):=by
     have h2:=congrArg (fun l=>l[q+1]?) ht
     try dsimp only at h2
     rw [List.getElem?_set_self (by omega),Dm (by omega)] at h2
     exact Option.some.inj h2
    rw [e];exact hcz _ _ _ (by omega) (by omega)
   have lt1:(0:Int)≤((q+1:Nat):Int)∧((q+1:Nat):Int)<((n+1:Nat):Int):=by omega
   have lt2:(0:Int)≤((q:Nat):Int)∧((q:Nat):Int)<((n+1:Nat):Int):=by omega
   have st1:((q+1:Nat):Int).toNat*3+3≤(An (nmD J) cur).length:=by rw [AA (n:=3) inferInstance,hcl,Int.toNat_natCast];omega
   have st2:((q:Nat):Int).toNat*3+3≤(An (nmD J) cur).length:=by rw [AA (n:=3) inferInstance,hcl,Int.toNat_natCast];omega
   have ld1:=Ca (f:=nmD J) (n:=3) inferInstance hx
   have ld2:=Ca (f:=nmD J) (n:=3) inferInstance hy
   have D4:=Vk (j:=J) (k:=J) (x:=smI a (o+1) (q+1) (q+1)) (y:=smI a (o+1) (q+1) q) (by omega) (by omega)
   generalize smI a (o+1) (q+1) (q+1)=x at*
   generalize smI a (o+1) (q+1) q=y at*
   repeat (first|refine Af ?_|refine Ac ?_|refine Aa rfl ?_|refine Ab rfl ?_|refine Ak ?_|refine Al ?_|refine Ad ?_|refine Ae ?_)
   refine ⟨c2-1,by omega,q+1,cur.set (q+1) (x+y),by omega,by omega,by omega,ht,?_⟩
   exact AS
  ·have bi:=Gb (k:= .i64) (decide_eq_false (show ¬((q+1:Nat):Int)≤(n:Int) by omega))
   obtain rfl:q=n:=by omega
   rw [Tr ho,Nat.add_sub_cancel] at hcur
   repeat (first|refine Af ?_|refine Ac ?_|refine Aa rfl ?_|refine Ab rfl ?_|refine Ak ?_|refine Al ?_|refine Ad ?_|refine Ae ?_)
   refine ⟨c-1,by omega,o,cur,by omega,by omega,hcur,?_⟩
   exact AS
 ·have bo:=DH (k:= .i64) (decide_eq_false (show ¬(o:Int)>0 by omega))
  obtain rfl:o=0:=by omega
  rw [V3] at hcur
  have he:cur=C:=hcur.trans hC1.symm
  have hCl:C.length=n+1:=by rw [hC1];simp
  subst he
  clear hcur hC1
  repeat (first|refine Af ?_|refine Ac ?_|refine Aa rfl ?_|refine Ab rfl ?_|refine Ak ?_|refine Al ?_|refine Ad ?_|refine Ae ?_)
  refine BG 26 hD (ss:= [(4,At (n:Nat)),(6,.one (.ptr 6 0)),(7,.one (.ptr 7 0))]) (bs:= [(6,[Ap J cur]),(7,nmC js S)]) ?_ ?_
  ·exact UK
  repeat (first|refine Af ?_|refine Ac ?_|refine Aa rfl ?_|refine Ab rfl ?_|refine Ak ?_|refine Al ?_|refine Ad ?_|refine Ae ?_)
  refine As (And.intro (Or.inr rfl) ?_)
  exact Od
section
variable {P:Program} {X:Ctx} {ops l:List Oper} {σ:St} {K:List Eff→St→Prop} {s:Nat→AV}
variable {dst:Option Tmp} {ty:TypeId} {pos:String} {af:Array Edge} {gd:Option (Nat×Bool)}
theorem LR {t e:TypeId} {x hi:Operand} {agg:Bool} {n bytes:Nat} {zv:Value} [S:Sle P t e agg n bytes zv] {k len h:Nat} (hx:evC s x= .one (.gl k len n)) (hh:Bnd s len (some hi) h) (h1:0<h) (h2:h≤len):
  C5 P ⟨dst,.slice t x none (some hi) none,ty,pos,af,gd⟩ s (.one (.gl k h n)):=fun W0 μ sz w ρ hρ=>by
 have e1:=hρ x (by simp [Op.operands])
 rw [hx] at e1
 obtain ⟨ao,cap,hp,hlc,_,hc⟩:=e1
 obtain ⟨rfl,hcs,hk⟩:=hc (by omega)
 have rh:=I5 (P:=P) (W0:=W0) (μ:=μ) (sz:=sz) (w:=w) (ρ:=ρ) (code:= .sliceAcap) hh (hρ hi (by simp [Op.operands])) (y:=cap) (by omega)
 have rb:(Instr.sliceBounds true len cap none (some (ρ hi)) none).run P w= .ok (0,h,cap) w:=by
  unfold Instr.sliceBounds
  simp [rh]
 have hc0: ¬cap=0:=by omega
 refine ⟨.slice (some ⟨(μ k).1,0,none⟩) h cap,?_,some ⟨(μ k).1,0,none⟩,cap,rfl,by omega,fun h=>by omega,fun _=>⟨rfl,hcs,hk⟩⟩
 simp [execOp,Instr.sliceAt,Instr.slice,run_underlying S.hu w,hp,rb,S.tsz.size w,hc0,Addr.add_mid]
theorem Kh {t e:TypeId} {x hi:Operand} {agg:Bool} {n bytes:Nat} {zv:Value} [S:Sle P t e agg n bytes zv] {k len:Nat} (hx:evC s x= .one (.gl k len n)) (hh:Bnd s len (some hi) 0) (h1:0<len):
  C5 P ⟨dst,.slice t x none (some hi) none,ty,pos,af,gd⟩ s .junk:=fun W0 μ sz w ρ hρ=>by
 have e1:=hρ x (by simp [Op.operands])
 rw [hx] at e1
 obtain ⟨ao,cap,hp,hlc,_,hc⟩:=e1
 obtain ⟨rfl,hcs,hk⟩:=hc (by omega)
 have rh:=I5 (P:=P) (W0:=W0) (μ:=μ) (sz:=sz) (w:=w) (ρ:=ρ) (code:= .sliceAcap) hh (hρ hi (by simp [Op.operands])) (y:=cap) (by omega)
 have rb:(Instr.sliceBounds true len cap none (some (ρ hi)) none).run P w= .ok (0,0,cap) w:=by
  unfold Instr.sliceBounds
  simp [rh]
 have hc0: ¬cap=0:=by omega
 refine ⟨.slice (some ⟨(μ k).1,0,none⟩) 0 cap,?_,trivial⟩
 simp [execOp,Instr.sliceAt,Instr.slice,run_underlying S.hu w,hp,rb,S.tsz.size w,hc0,Addr.add_mid]
theorem S7 {t e:TypeId} {x hi:Operand} {agg:Bool} {n bytes:Nat} {zv:Value} [S:Sle P t e agg n bytes zv] {k len:Nat} (h1:0<len) (hhi:Bnd σ.s len (some hi) 0) (hg:gOk ops σ.s gd:=by first|exact trivial|exact rfl) (hd:dB X.n dst=true:=by exact rfl) (hx:evC σ.s x= .one (.gl k len n):=by exact rfl)
  (hl:Ai P X ops l (σ.app dst ⟨.junk,[],[],[]⟩) (fun es σ'=>K (⟨.junk,[],[],[]⟩::es) σ')):Ai P X ops (⟨dst,.slice t x none (some hi) none,ty,pos,af,gd⟩::l) σ K:=
 BJ (o:=⟨dst,.slice t x none (some hi) none,ty,pos,af,gd⟩) hg hd (Kh hx hhi h1) hl
theorem VB {t e:TypeId} {x hi:Operand} {agg:Bool} {n bytes:Nat} {zv:Value} [S:Sle P t e agg n bytes zv] {k len h:Nat} (h1:0<h) (h2:h≤len) (hhi:Bnd σ.s len (some hi) h) (hg:gOk ops σ.s gd:=by first|exact trivial|exact rfl) (hd:dB X.n dst=true:=by exact rfl) (hx:evC σ.s x= .one (.gl k len n):=by exact rfl)
  (hl:Ai P X ops l (σ.app dst ⟨.one (.gl k h n),[],[],[]⟩) (fun es σ'=>K (⟨.one (.gl k h n),[],[],[]⟩::es) σ')):Ai P X ops (⟨dst,.slice t x none (some hi) none,ty,pos,af,gd⟩::l) σ K:=
 BJ (o:=⟨dst,.slice t x none (some hi) none,ty,pos,af,gd⟩) hg hd (LR hx hhi h1 h2) hl
end
def rwI (f:Nat→Rat) (n k i q:Nat):Rat:=if q<i then CF f (k+1) q else if q+k≤n then CF f k q else CF f (n-q) q
section
variable {f:Nat→Rat} {n k i q:Nat} {x:Rat}
theorem RU:tab (n+1) (rwI f n 0 0)=tab (n+1) f:=Ax fun q hq=>by unfold rwI;rw [if_neg (by omega),if_pos (by omega)];rfl
theorem TD (h:k<n):tab (n+1) (rwI f n k (n-k))=tab (n+1) (rwI f n (k+1) 0):=Ax fun q hq=>by
 unfold rwI
 rw [if_neg (Nat.not_lt_zero q)]
 by_cases h1:q<n-k
 ·rw [if_pos h1,if_pos (by omega)]
 ·rw [if_neg h1]
  by_cases h2:q+k≤n
  ·rw [if_pos h2,if_neg (by omega),show n-q=k by omega]
  ·rw [if_neg h2,if_neg (by omega)]
theorem Wg (h:i+k<n) (hx:x=rwI f n k i (i+1)-rwI f n k i i):(tab (n+1) (rwI f n k i)).set i x=tab (n+1) (rwI f n k (i+1)):=
 Cm (by omega) (by
  rw [hx]
  unfold rwI
  rw [if_pos (by omega),if_neg (by omega),if_pos (by omega),if_neg (by omega),if_pos (by omega)]
  rfl) fun q hq hqi=>by
  unfold rwI
  by_cases h1:q<i
  ·rw [if_pos h1,if_pos (by omega)]
  ·rw [if_neg h1,if_neg (by omega)]
theorem RV:rwI f n k 0 0=if k≤n then CF f k 0 else CF f n 0:=by
 unfold rwI
 rw [if_neg (by omega),Nat.zero_add,Nat.sub_zero]
theorem Wh {J:Nat} (H: ∀k i,k+i≤n→RSz J (CF f k i)) (hq:q≤n) (hi:i+k≤n):RSz J (rwI f n k i q):=by
 unfold rwI
 by_cases h1:q<i
 ·rw [if_pos h1];exact H _ _ (by omega)
 ·rw [if_neg h1]
  by_cases h2:q+k≤n
  ·rw [if_pos h2];exact H _ _ (by omega)
  ·rw [if_neg h2];exact H _ _ (by omega)
end
theorem P4 {D B n:Nat} {f:Nat→Rat} (hf: ∀i,i≤n→IB D B (f i)): ∀k i,k+i≤n→IB D (B*2^k) (CF f k i)
 | 0,i,h=>by rw [Nat.pow_zero,Nat.mul_one];exact hf i (by omega)
 | k+1,i,h=>by
   obtain ⟨a,ha,hab⟩:=P4 hf k (i+1) (by omega)
   obtain ⟨b,hb,hbb⟩:=P4 hf k i (by omega)
   refine ⟨a-b,?_,?_⟩
   ·show (CF f k (i+1)-CF f k i)*_=_
    rw [Rat.intCast_sub,←ha,←hb];grind
   ·rw [Nat.pow_succ,←Nat.mul_assoc]
    omega
theorem Q8 {j n J:Nat} {l:List Rat} (hl:l.length=n+1) (hr: ∀r∈l,RSz j r) (hJ:2+(n+1)*j+j+(n+2)≤J): ∀k i,k+i≤n→RSz J (CF (cf l) k i):=fun k i h=>by
 obtain ⟨M,B,hM0,hM,hB,H⟩:=QU hl hr
 have h2:Sz (n+2) (2^k):=((Sz.pow (a:=1) (E:=2) (Aj _ _ (by decide)) k)).mono (by omega)
 exact (P4 H k i h).rsz hM0 (hM.mono (by omega)) ((hB.mul h2).mono (by omega))
theorem Jg {j n:Nat} {p:List Rat} (hp:p.length=n+1) (hn:n≤40) (hj:j≤1000) (hr: ∀r∈p,RSz j r):
  Ctr Tryz.prog Amb 34 [.one (Ap j p)] (.one (Cs 200000 (n+1) (EP (cf p) n))):=by
 have hNA:(n+1)*j≤41*1000:=Nat.mul_le_mul (by omega) hj
 obtain ⟨J,hJ⟩: ∃J,J=90000:=⟨_,rfl⟩
 have hds:=Q8 (J:=J) hp hr (by omega)
 have hcz: ∀k i q,q≤n→i+k≤n→RSz J (rwI (cf p) n k i q):=fun k i q h1 h2=>Wh hds h1 h2
 obtain ⟨a,ha⟩: ∃a:Nat→Rat,a=cf p:=⟨_,rfl⟩
 have hpa:p=tab (n+1) a:=by
  have:=Jf (0:Rat) p
  rw [hp] at this
  rw [ha];exact this.symm
 rw [←ha] at hcz⊢
 clear hds ha
 obtain ⟨H,hH⟩: ∃H:Nat→Rat,H=EP a n:=⟨_,rfl⟩
 unfold Cs
 rw [←hH]
 obtain ⟨J2,hJ2⟩: ∃J2,J2=2+J+2:=⟨_,rfl⟩
 have e1:=BI (k:= .i64) (show (IntKind.i64).wrap ((p.length:Int)-1)=(n:Int) by rw [show ((p.length:Int)-1)=(n:Int) by omega];exact IntWalk.i64_in _ (by omega))
 refine Am Tryz.func34 rfl rfl rfl rfl rfl rfl ?_
 intro W0 base D μ0 hA hD
 repeat (first|refine Af ?_|refine Ac ?_|refine Aa rfl ?_|refine Ab rfl ?_|refine Ak ?_|refine Al ?_|refine Ad ?_|refine Ae ?_)
 refine A5 (ss:= [(0,.one (Ap J p)),(3,At (n:Nat))]) (bs:= []) ?_ ?_
 ·exact AS
 refine Et 2 (by simp only [List.take_succ_cons,List.take_zero,List.drop_succ_cons,List.drop_zero];exact ⟨rfl,rfl⟩) (by kernel_rfl) ?_
 refine G3 (hl:=?_)
 refine AZ (hl:=?_)
 apply Ai.nil
 refine Iw (la:=([]:List Rat)) (f:=nmD J) (k:=11) (ss:= [(3,At (n:Nat))]) (bs:= []) (ns:=An (nmD J) p) (hns:=Rk inferInstance _ p) hD ?_ ?_ ?_
 ·exact ⟨by simp;omega,by simp;omega⟩
 ·exact AS
 repeat (refine FU rfl ?_;refine AC (hl:=?_);apply Ai.nil)
 refine FV ?_
 refine A5 (ss:= [(3,At (n:Nat)),(4,.one (.gl 11 p.length 3))]) (bs:= [(11,An (nmD J) p)]) ?_ ?_
 ·refine Dr ?_ ?_ rfl
  ·repeat (first|exact Aq|(refine List.forall_mem_cons.2 ⟨?_,?_⟩;focus (first|exact Ent.of_eq rfl|(refine Ent.one' rfl ?_;(first|exact FI|(refine Ag.glLen ?_;simp)|exact EJ))|(refine Ent.agg' rfl ?_;(repeat (first|exact EntL.nil' rfl|(refine EntL.cons' rfl ?_ ?_;focus (first|exact FI|(refine Ag.glLen ?_;simp)|exact EJ))));done))))
  ·repeat (first|exact Aq|(refine List.forall_mem_cons.2 ⟨?_,?_⟩;focus (first|exact AN inferInstance|(exact J8 (la:= []) inferInstance)|(refine BB rfl ?_ rfl;focus ((repeat (first|exact EntL.nil' rfl|(refine EntL.cons' rfl ?_ ?_;focus (first|exact FI|(refine Ag.glLen ?_;simp)|exact EJ))));done)))))
 rw [hp]
 repeat (first|refine Af ?_|refine Ac ?_|refine Aa rfl ?_|refine Ab rfl ?_|refine Ak ?_|refine Al ?_|refine Ad ?_|refine Ae ?_)
 refine AK (fun c σ=> ∃(k:Nat) (done:List Rat),c=n+1-k∧done=tab k H∧((k≤n∧ ∃cur:List Rat,cur=tab (n+1) (rwI a n k 0)∧Wk ⟨W0,base,D,55,[],μ0⟩ σ [(3,At (n:Nat)),(4,.one (.gl 11 (n+1-k) 3)),(5,.one (.gl 900 done.length 3)),(6,At (k:Nat))] [(11,An (nmD J) cur),(900,An (nmD J2) done)])∨(k=n+1∧Wk ⟨W0,base,D,55,[],μ0⟩ σ [(3,At (n:Nat)),(5,.one (.gl 900 done.length 3)),(6,At (k:Nat))] [(900,An (nmD J2) done)]))) (n:=n+1) ⟨0,[],rfl,rfl,.inl ⟨by omega,p,hpa.trans RU.symm,?_⟩⟩ ?_
 ·exact AS
 clear hpa hr
 intro c σ hI
 obtain ⟨k,done,hc,hdone,hI⟩:=hI
 have hdl:done.length=k:=by rw [hdone];simp
 rcases hI with ⟨hk,cur,hcur,hw⟩|⟨hk,hw⟩
 ·refine A5 hw ?_
  clear hw
  have bk:=Gb (k:= .i64) (decide_eq_true (show (k:Int)≤(n:Int) by omega))
  have hkn:=AL (k:= .i64) (show (IntKind.i64).wrap ((k:Int)+1)=((k+1:Nat):Int) from IntWalk.i64_in _ (by omega))
  have C1:=Ji (n:=n) (k:=k) hn hk
  have hcl:cur.length=n+1:=by rw [hcur];simp
  have h0:rwI a n k 0 0=CF a k 0:=by rw [RV,if_pos hk]
  have hx:cur[((0:Nat):Int).toNat]?=some (CF a k 0):=by rw [←h0,hcur];exact A8 (by omega)
  have ht:done++ [AF n k*CF a k 0]=tab (k+1) H:=by rw [hdone,show AF n k*CF a k 0=H k by rw [hH];rfl];exact G8
  have M1:=Nw (j:=2) (k:=J) (x:=AF n k) (y:=CF a k 0) (by omega) (by omega)
  have lt0:(0:Int)≤((0:Nat):Int)∧((0:Nat):Int)<((n+1-k:Nat):Int):=by omega
  have st0:((0:Nat):Int).toNat*3+3≤(An (nmD J) cur).length:=by rw [AA (n:=3) inferInstance,hcl,Int.toNat_natCast];omega
  have ld0:=Ca (f:=nmD J) (n:=3) inferInstance hx
  rw [←hJ2] at M1
  clear hdone h0
  unfold AF at*
  generalize CF a k 0=y at*
  generalize ((bin n k:Int):Rat)=x at*
  repeat (first|refine Af ?_|refine Ac ?_|refine Aa rfl ?_|refine Ab rfl ?_|refine Ak ?_|refine Al ?_|refine Ad ?_|refine Ae ?_)
  try refine Af ?_
  refine Oz 9 (by simp only [List.take_succ_cons,List.take_zero,List.drop_succ_cons,List.drop_zero];exact ⟨rfl,rfl⟩) (by kernel_rfl) (by kernel_rfl) (by kernel_rfl) (by kernel_rfl) (by kernel_rfl) ?_
  repeat (first
   | refine IT (k:=11) st0 ld0 (hl:=?_)
   | refine AZ (hl:=?_)
   | refine AC (hl:=?_)
   | refine BU (hl:=?_)
   | refine BN (hl:=?_)
   | refine B5 (hl:=?_)
   | refine AO (hl:=?_)
   | refine Cv (hl:=?_)
   | refine Cu (hl:=?_)
   | refine Cw (hl:=?_)
   | refine Cj (hl:=?_)
   | refine B8 (hl:=?_)
   | refine Cf (hl:=?_)
   | refine Lo lt0 (hl:=?_)
   | refine Ay hA (hc:=C1) (hl:=?_)
   | refine Ay hA (hc:=M1) (hl:=?_))
  apply Ai.nil
  refine And.intro (by kernel_rfl) ?_
  refine Iw (k:=900) (ss:= [(3,At (n:Nat)),(4,.one (.gl 11 (n+1-k) 3)),(6,At (k:Nat))]) (bs:= [(11,An (nmD J) cur)]) (ns:=(nmC J2 (x*y))) hD ?_ ?_ ?_
  ·exact ⟨by omega,by omega⟩
  ·exact AS
  repeat (refine FU rfl ?_;(first|refine AC (hl:=?_)|refine AZ (hl:=?_)|refine BN (hl:=?_));apply Ai.nil)
  refine FV ?_
  repeat (first|refine Af ?_|refine Ac ?_|refine Aa rfl ?_|refine Ab rfl ?_|refine Ak ?_|refine Al ?_|refine Ad ?_|refine Ae ?_)
  refine AK (fun c σ=> ∃(i:Nat) (cur:List Rat),c=n-k-i∧i≤n-k∧cur=tab (n+1) (rwI a n k i)∧Wk ⟨W0,base,D,55,[],μ0⟩ σ [(3,At (n:Nat)),(4,.one (.gl 11 (n+1-k) 3)),(5,.one (.gl 900 (done++ [x*y]).length 3)),(6,At (k:Nat)),(7,At (i:Nat))] [(11,An (nmD J) cur),(900,An (nmD J2) (done++ [x*y]))]) (n:=n-k) ⟨0,cur,rfl,by omega,hcur,?_⟩ ?_
  ·exact AS
  clear hcur hx ld0 st0 hcl cur
  intro c2 σ hI
  obtain ⟨i,cur,hc2,hi0,hcur,hw⟩:=hI
  refine A5 hw ?_
  clear hw
  have hcl:cur.length=n+1:=by rw [hcur];simp
  have hin:=AL (k:= .i64) (show (IntKind.i64).wrap ((i:Int)+1)=((i+1:Nat):Int) from IntWalk.i64_in _ (by omega))
  by_cases hi:i<n-k
  ·have bi:=AJ (k:= .i64) (decide_eq_true (show ((i+1:Nat):Int)<((n+1-k:Nat):Int) by omega))
   have hx:cur[((i+1:Nat):Int).toNat]?=some (rwI a n k i (i+1)):=by rw [hcur];exact A8 (by omega)
   have hy:cur[((i:Nat):Int).toNat]?=some (rwI a n k i i):=by rw [hcur];exact A8 (by omega)
   have ht2:=Wg (f:=a) (n:=n) (k:=k) (i:=i) (by omega) rfl
   rw [←hcur] at ht2
   have hz:RSz J (rwI a n k i (i+1)-rwI a n k i i):=by
    have e:rwI a n k i (i+1)-rwI a n k i i=rwI a n k (i+1) i:=by
     have h2:=congrArg (fun l=>l[i]?) ht2
     try dsimp only at h2
     rw [List.getElem?_set_self (by omega),Dm (by omega)] at h2
     exact Option.some.inj h2
    rw [e];exact hcz k (i+1) i (by omega) (by omega)
   have lt1:(0:Int)≤((i+1:Nat):Int)∧((i+1:Nat):Int)<((n+1-k:Nat):Int):=by omega
   have lt2:(0:Int)≤((i:Nat):Int)∧((i:Nat):Int)<((n+1-k:Nat):Int):=by omega
   have st1:((i+1:Nat):Int).toNat*3+3≤(An (nmD J) cur).length:=by rw [AA (n:=3) inferInstance,hcl,Int.toNat_natCast];omega
   have st2:((i:Nat):Int).toNat*3+3≤(An (nmD J) cur).length:=by rw [AA (n:=3) inferInstance,hcl,Int.toNat_natCast];omega
   have ld1:=Ca (f:=nmD J) (n:=3) inferInstance hx
   have ld2:=Ca (f:=nmD J) (n:=3) inferInstance hy
   have D4:=Xd (j:=J) (k:=J) (x:=rwI a n k i (i+1)) (y:=rwI a n k i i) (by omega) (by omega)
   generalize rwI a n k i (i+1)=u at*
   generalize rwI a n k i i=v at*
   repeat (first|refine Af ?_|refine Ac ?_|refine Aa rfl ?_|refine Ab rfl ?_|refine Ak ?_|refine Al ?_|refine Ad ?_|refine Ae ?_)
   refine ⟨c2-1,by omega,i+1,cur.set i (u-v),by omega,by omega,ht2,?_⟩
   exact AS
  ·have bi:=AJ (k:= .i64) (decide_eq_false (show ¬((i+1:Nat):Int)<((n+1-k:Nat):Int) by omega))
   obtain rfl:i=n-k:=by omega
   have hdn:=BI (k:= .i64) (show (IntKind.i64).wrap (((n+1-k:Nat):Int)-1)=((n-k:Nat):Int) by rw [show (((n+1-k:Nat):Int)-1)=((n-k:Nat):Int) by omega];exact IntWalk.i64_in _ (by omega))
   by_cases hkk:k<n
   ·rw [TD hkk] at hcur
    have hp1:0<n-k:=by omega
    have hp2:n-k≤n+1-k:=by omega
    repeat (first
     | refine Af ?_|refine Ac ?_|refine Aa rfl ?_|refine Ab rfl ?_
     | ((first|refine AI (by kernel_rfl) ?_|refine BL (by kernel_rfl) (by kernel_rfl) (by kernel_rfl) ?_)
        repeat (first
         | refine AZ (hl:=?_)
         | refine AC (hl:=?_)
         | refine BU (hl:=?_)
         | refine BN (hl:=?_)
         | refine B5 (hl:=?_)
         | refine AO (hl:=?_)
         | refine Cv (hl:=?_)
         | refine Cu (hl:=?_)
         | refine Cw (hl:=?_)
         | refine Cj (hl:=?_)
         | refine B8 (hl:=?_)
         | refine Cf (hl:=?_)
         | refine VB (h:=n-k) hp1 hp2 (.some rfl rfl) (hl:=?_))
        apply Ai.nil;try refine And.intro (by kernel_rfl) ?_)
     | refine Ad ?_|refine Ae ?_)
    refine ⟨c-1,by omega,k+1,done++ [x*y],by omega,ht,.inl ⟨by omega,cur,hcur,?_⟩⟩
    refine Dr ?_ ?_ rfl
    ·repeat (first|exact Aq|(refine List.forall_mem_cons.2 ⟨?_,?_⟩;focus (first|exact Ent.of_eq rfl|(refine Ent.one' rfl ?_;(first|exact FI|(refine Ag.glLen ?_;omega)|exact EJ))|(refine Ent.agg' rfl ?_;(repeat (first|exact EntL.nil' rfl|(refine EntL.cons' rfl ?_ ?_;focus (first|exact FI|(refine Ag.glLen ?_;omega)|exact EJ))));done))))
    ·repeat (first|exact Aq|(refine List.forall_mem_cons.2 ⟨?_,?_⟩;focus (first|exact AN inferInstance|(refine BB rfl ?_ rfl;focus ((repeat (first|exact EntL.nil' rfl|(refine EntL.cons' rfl ?_ ?_;focus (first|exact FI|(refine Ag.glLen ?_;omega)|exact EJ))));done)))))
   ·obtain rfl:k=n:=by omega
    have hp1:0<k+1-k:=by omega
    have hp2:((k-k:Nat):Int)=((0:Nat):Int):=by omega
    repeat (first
     | refine Af ?_|refine Ac ?_|refine Aa rfl ?_|refine Ab rfl ?_
     | ((first|refine AI (by kernel_rfl) ?_|refine BL (by kernel_rfl) (by kernel_rfl) (by kernel_rfl) ?_)
        repeat (first
         | refine AZ (hl:=?_)
         | refine AC (hl:=?_)
         | refine BU (hl:=?_)
         | refine BN (hl:=?_)
         | refine B5 (hl:=?_)
         | refine AO (hl:=?_)
         | refine Cv (hl:=?_)
         | refine Cu (hl:=?_)
         | refine Cw (hl:=?_)
         | refine Cj (hl:=?_)
         | refine B8 (hl:=?_)
         | refine Cf (hl:=?_)
         | refine S7 hp1 (.some rfl hp2) (hl:=?_))
        apply Ai.nil;try refine And.intro (by kernel_rfl) ?_)
     | refine Ad ?_|refine Ae ?_)
    refine ⟨c-1,by omega,k+1,done++ [x*y],by omega,ht,.inr ⟨rfl,?_⟩⟩
    exact AS
 ·refine A5 hw ?_
  subst hk
  have bk:=Gb (k:= .i64) (decide_eq_false (show ¬((n+1:Nat):Int)≤(n:Int) by omega))
  repeat (first|refine Af ?_|refine Ac ?_|refine Aa rfl ?_|refine Ab rfl ?_|refine Ak ?_|refine Al ?_|refine Ad ?_|refine Ae ?_)
  refine BG 900 hD (ss:= [(2,.one (Ap J2 done))]) (bs:= []) ?_ ?_
  ·exact In
  subst hdone
  refine As (And.intro (Or.inr rfl) ?_)
  exact AX (hE:=(Ent.one' rfl (Ag.ratsLe (by omega))))
theorem QB {g:Nat→Rat} {b:Nat} : ∀ {c:Nat},(∀i,i<c→RSz b (g i))→RSz (c*(b+1)+1) (DI g c)
 | 0,_=>((IZ.zero (b:=1)).rsz (Zc 1)).mono (by omega)
 | c+1,h=>((QB (c:=c) fun i hi=>h i (by omega)).add (h c (by omega))).mono (by rw [Nat.succ_mul];omega)
theorem G9 {j n:Nat} {p:List Rat} (hp:p.length=n+1) (hn:n≤40) (hj:j≤1000) (hr: ∀r∈p,RSz j r):
  Ctr Tryz.prog Amb 26 [.one (Ap j p)] (.tup [.one (Ap 90000 (tab (n+1) (DC (cf p) n))),At 0]):=by
 obtain ⟨J,hJ⟩: ∃J,J=90000:=⟨_,rfl⟩
 have hq: ∀q,q≤n→RSz j (cf p q):=fun q hq=>by
  have hlt:q<p.length:=by omega
  have h1:cf p q∈p:=by
   unfold cf
   rw [List.getD_eq_getElem?_getD,Zd hlt];exact List.getElem_mem hlt
  exact hr _ h1
 have ht: ∀i q,i≤n→q≤i→RSz (2+2+j) (ofT (cf p) n i q):=fun i q h1 h2=>by
  unfold ofT
  exact (Gj (Fv (by omega)) (Fv (by omega)) (Ek (by omega))).mul (hq q (by omega))
 have hz: ∀i k,i≤n→k≤i+1→RSz J (DI (ofT (cf p) n i) k):=fun i k h1 h2=>(QB fun q hq=>ht i q h1 (by omega)).mono (by
  have:k*(2+2+j+1)≤41*(2+2+1000+1):=Nat.mul_le_mul (by omega) (by omega)
  omega)
 obtain ⟨H,hH⟩: ∃H:Nat→Rat,H=DC (cf p) n:=⟨_,rfl⟩
 have hHs: ∀i,DI (ofT (cf p) n i) (i+1)=H i:=fun i=>by rw [hH];exact Uj.symm
 rw [←hH,←hJ]
 clear hH hr hq ht
 have e1:=BI (k:= .i64) (show (IntKind.i64).wrap ((p.length:Int)-1)=(n:Int) by rw [show ((p.length:Int)-1)=(n:Int) by omega];exact IntWalk.i64_in _ (by omega))
 have e2:=AJ (k:= .i64) (decide_eq_false (show ¬(n:Int)<0 by omega))
 have e3:=DH (k:= .i64) (decide_eq_false (show ¬(n:Int)>40 by omega))
 refine Am Tryz.func26 rfl rfl rfl rfl rfl rfl ?_
 intro W0 base D μ0 hA hD
 repeat (first|refine Af ?_|refine Ac ?_|refine Aa rfl ?_|refine Ab rfl ?_|refine Ak ?_|refine Al ?_|refine Ad ?_|refine Ae ?_)
 refine AK (fun c σ=> ∃(i:Nat) (done:List Rat),c=n+1-i∧i≤n+1∧done=tab i H∧Wk ⟨W0,base,D,47,[],μ0⟩ σ [(0,.one (Ap j p)),(4,At (n:Nat)),(5,.one (.gl 900 done.length 3)),(6,At (i:Nat))] [(900,An (nmD J) done)]) (n:=n+1) ⟨0,[],by omega,by omega,rfl,?_⟩ ?_
 ·exact AS
 intro c σ hI
 obtain ⟨i,done,hc,hi0,hdone,hw⟩:=hI
 refine A5 hw ?_
 clear hw
 have hdl:done.length=i:=by rw [hdone];simp
 by_cases hi:i<n+1
 ·have bi:=Gb (k:= .i64) (decide_eq_true (show (i:Int)≤(n:Int) by omega))
  have hin:=AL (k:= .i64) (show (IntKind.i64).wrap ((i:Int)+1)=((i+1:Nat):Int) from IntWalk.i64_in _ (by omega))
  repeat (first|refine Af ?_|refine Ac ?_|refine Aa rfl ?_|refine Ab rfl ?_|refine Ak ?_|refine Al ?_|refine Ad ?_|refine Ae ?_)
  refine AK (fun c σ=> ∃(k:Nat),c=i+1-k∧k≤i+1∧Wk ⟨W0,base,D,47,[],μ0⟩ σ [(0,.one (Ap j p)),(4,At (n:Nat)),(5,.one (.gl 900 done.length 3)),(6,At (i:Nat)),(7,.one (.ptr 7 0)),(8,At (k:Nat))] [(7,nmC J (DI (ofT (cf p) n i) k)),(900,An (nmD J) done)]) (n:=i+1) ⟨0,by omega,by omega,?_⟩ ?_
  ·refine Dr ?_ ?_ rfl
   ·exact GY
   ·repeat (first|exact Aq|(refine List.forall_mem_cons.2 ⟨?_,?_⟩;focus (first|exact AN inferInstance|(refine BB rfl ?_ rfl;exact EntL.cons' rfl Ag.z0 (EntL.cons' rfl Ag.z1 (EntL.cons' rfl Ag.z2 (EntL.nil' rfl))))|(refine BB rfl ?_ rfl;focus (exact BQ;done)))))
  intro c2 σ hI
  obtain ⟨k,hc2,hk0,hw⟩:=hI
  refine A5 hw ?_
  clear hw
  by_cases hk:k<i+1
  ·have bk:=Gb (k:= .i64) (decide_eq_true (show (k:Int)≤(i:Int) by omega))
   have hkn:=AL (k:= .i64) (show (IntKind.i64).wrap ((k:Int)+1)=((k+1:Nat):Int) from IntWalk.i64_in _ (by omega))
   have C1:=Ji (n:=i) (k:=k) (by omega) (by omega)
   have C2:=Ji (n:=n) (k:=k) (by omega) (by omega)
   have hx:p[((k:Nat):Int).toNat]?=some (cf p k):=FH (by omega)
   have O1:=XY (j:=2) (k:=2) (x:=AF i k) (y:=AF n k) (by omega) (by omega) (Ek (by omega))
   have M1:=Nw (j:=2+2+2) (k:=j) (x:=AF i k/AF n k) (y:=cf p k) (by omega) (by omega)
   have A1:=TT (j:=J) (k:=2+2+2+j+2) (x:=DI (ofT (cf p) n i) k) (y:=AF i k/AF n k*cf p k) (by omega) (by omega)
   have he:DI (ofT (cf p) n i) k+AF i k/AF n k*cf p k=DI (ofT (cf p) n i) (k+1):=rfl
   have hz1:=hz i (k+1) (by omega) (by omega)
   unfold AF at*
   generalize DI (ofT (cf p) n i) k=v at*
   generalize cf p k=y at*
   generalize ((bin i k:Int):Rat)=b1 at*
   generalize ((bin n k:Int):Rat)=b2 at*
   repeat (first|refine Af ?_|refine Ac ?_|refine Aa rfl ?_|refine Ab rfl ?_|refine Ak ?_|refine Al ?_|refine Ad ?_|refine Ae ?_)
   refine ⟨c2-1,by omega,k+1,by omega,by omega,?_⟩
   exact AS
  ·have bk:=Gb (k:= .i64) (decide_eq_false (show ¬(k:Int)≤(i:Int) by omega))
   obtain rfl:k=i+1:=by omega
   rw [hHs]
   have ht:done++ [H i]=tab (i+1) H:=by rw [hdone];exact G8
   clear hdone
   generalize H i=y at*
   repeat (first|refine Af ?_|refine Ac ?_|refine Aa rfl ?_|refine Ab rfl ?_|refine Ak ?_|refine Al ?_|refine Ad ?_|refine Ae ?_)
   try refine Af ?_
   refine Et 3 (by simp only [List.take_succ_cons,List.take_zero,List.drop_succ_cons,List.drop_zero];exact ⟨rfl,rfl⟩) (by kernel_rfl) ?_
   repeat (first
    | refine DM (hl:=?_)
    | refine AZ (hl:=?_)
    | refine AC (hl:=?_)
    | refine BU (hl:=?_)
    | refine BN (hl:=?_)
    | refine ER (hl:=?_)
    | refine B5 (hl:=?_)
    | refine AO (hl:=?_)
    | refine Da (hl:=?_)
    | refine Db (hl:=?_)
    | refine Cv (hl:=?_)
    | refine Cu (hl:=?_)
    | refine Cw (hl:=?_)
    | refine Cj (hl:=?_)
    | refine B8 (hl:=?_)
    | refine Cf (hl:=?_))
   apply Ai.nil
   refine Iw (k:=900) (ss:= [(0,.one (Ap j p)),(4,At (n:Nat)),(6,At (i:Nat))]) (bs:= []) (ns:=(nmC J y)) hD ?_ ?_ ?_
   ·exact ⟨by omega,by omega⟩
   ·exact AS
   repeat (refine FU rfl ?_;(first|refine AC (hl:=?_)|refine AZ (hl:=?_)|refine BN (hl:=?_));apply Ai.nil)
   refine FV ?_
   repeat (first|refine Af ?_|refine Ac ?_|refine Aa rfl ?_|refine Ab rfl ?_|refine Ak ?_|refine Al ?_|refine Ad ?_|refine Ae ?_)
   refine ⟨c-1,by omega,i+1,done++ [y],by omega,by omega,ht,?_⟩
   exact AS
 ·have bi:=Gb (k:= .i64) (decide_eq_false (show ¬(i:Int)≤(n:Int) by omega))
  obtain rfl:i=n+1:=by omega
  repeat (first|refine Af ?_|refine Ac ?_|refine Aa rfl ?_|refine Ab rfl ?_|refine Ak ?_|refine Al ?_|refine Ad ?_|refine Ae ?_)
  refine BG 900 hD (ss:= [(2,.one (Ap J done)),(3,At 0)]) (bs:= []) ?_ ?_
  ·exact In
  subst hdone
  refine As (And.intro (Or.inr rfl) ?_)
  exact Od
end Go.Proofs.YtnkobfcnflphkaaGreatDoor
