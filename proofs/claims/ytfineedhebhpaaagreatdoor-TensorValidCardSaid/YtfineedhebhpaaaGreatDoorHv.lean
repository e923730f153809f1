/-
  Several texts in one: Zj, Zk.
-/
import Derived.Test.YtfineedhebhpaaaGreatDoorHw
namespace Go.Proofs.YtfineedhebhpaaaGreatDoor
open List renaming getElem?_eq_getElem→Yv
open Nat renaming le_refl→Yu
open Go.RowKit
set_option linter.unusedVariables false
set_option linter.unusedSimpArgs false
set_option maxRecDepth 20000
set_option maxHeartbeats 4000000
theorem Ts {j jt n J:Nat} {l:List Rat} {t:Rat} (hl:l.length=n+1) (hn:n≤40) (hj:j≤10000) (hjt:jt≤10000) (hr: ∀r∈l,RSz j r) (ht:RSz jt t) (hJ:J=2000000):
  Ctr Tryz.prog Amb 89 [.one (AH j l),nm jt t] (nm (J+J+2) (CB t (cf l) n)):=by
 have hNA:(n+1)*j≤41*10000:=Nat.mul_le_mul (by omega) hj
 have hNB:n*(jt+1+1)≤40*10002:=Nat.mul_le_mul hn (by omega)
 have hNC:n*(jt+1)≤40*10002:=Nat.mul_le_mul hn (by omega)
 obtain ⟨M,hM0,_,hMS,hMsz,hint⟩:=FV l 1 2 (by decide) (Al _ _ (by decide)) hr
 have P1:=FE (j:=j) (l:=l) (by omega) (by omega)
 have W1:=Jo (J:=J) hl (by omega) (by omega) hr (by omega)
 have R1:=VB (j:=jt) (t:=t) (by omega)
 obtain ⟨S,hS⟩: ∃S,S=whS Cy l:=⟨_,rfl⟩
 rw [←hS] at W1
 have hSM:S=((M:Int):Rat):=hS.trans hMS
 have hS0:S≠0:=by rw [hSM];exact L5 hM0
 clear hMS hS
 rw [hl] at hMsz
 have hE:Sz (jt+1) t.den:=ht.2.mono (by omega)
 have hz0:BV t≠0:=by have:=N6 t;intro h;rw [h] at this;exact absurd this (by decide)
 obtain ⟨hu,hd⟩:=KJ ht
 have hcs:=Rs (a:=2+(n+1)*j) (jt:=jt+1) (n:=n) hl hr hMsz hSM hint hu hd
 have hgs:=Xn (n:=n) hMsz hE
 rw [←hSM] at hgs
 have V1:=Jq (ju:=2*jt+4) (jd:=3*jt+9) (n:=n) (J:=J) (u:=t*BV t) (d:=BV t-t*BV t) (f:=fun i=>S*l.getD i 0) (by omega) (by omega) (by omega) (by omega) (fun k i h=>(hcs k i h).mono (by omega))
 have G1:=F3 (ja:=(n+1)*j+2) (jq:=jt+2) (n:=n) (J:=J) (a:=S) (q:=BV t) (by omega) (by omega) (by omega) (by omega) (fun i hi=>(hgs i hi).mono (by omega))
 have O1:=Tp (j:=J) (k:=J) (x:=AF (t*BV t) (BV t-t*BV t) (fun i=>S*l.getD i 0) n 0) (y:=DY S (BV t) n) (by omega) (by omega) (Uj hS0 hz0 n)
 have he:AF (t*BV t) (BV t-t*BV t) (fun i=>S*l.getD i 0) n 0/DY S (BV t) n=CB t (cf l) n:=Wi (f:=cf l) (i:=n) hS0 hz0 rfl rfl
 rw [he] at O1
 have hdn:=Cl (k:= .i64) (show (IntKind.i64).wrap ((l.length:Int)-1)=(n:Int) by rw [show ((l.length:Int)-1)=(n:Int) by omega];exact IntWalk.i64_in _ (by omega))
 clear hcs hgs hint hMsz hSM hM0 hE hu hd hr he
 obtain ⟨F,hF⟩: ∃F,F=tab (n+1) fun i=>S*l.getD i 0:=⟨_,rfl⟩
 obtain ⟨R,hR⟩: ∃R,R=tab (n+1) fun q=>AF (t*BV t) (BV t-t*BV t) (fun i=>S*l.getD i 0) (n-q) q:=⟨_,rfl⟩
 obtain ⟨G,hG⟩: ∃G,G=tab (n+1) (DY S (BV t)):=⟨_,rfl⟩
 have hFl:F.length=n+1:=by rw [hF];simp
 have hRl:R.length=n+1:=by rw [hR];simp
 unfold EX at V1 G1
 rw [←hF] at W1 V1
 rw [←hR] at V1
 rw [←hG] at G1
 have hx:R[((0:Nat):Int).toNat]?=some (AF (t*BV t) (BV t-t*BV t) (fun i=>S*l.getD i 0) n 0):=by
  rw [hR];exact CG (g:=fun q=>AF (t*BV t) (BV t-t*BV t) (fun i=>S*l.getD i 0) (n-q) q) (by omega)
 have hy:G[((n:Nat):Int).toNat]?=some (DY S (BV t) n):=by rw [hG];exact CG (by omega)
 clear hR hF hG
 have lt0:(0:Int)≤((0:Nat):Int)∧((0:Nat):Int)<((n+1:Nat):Int):=by omega
 have st0:((0:Nat):Int).toNat*3+3≤(Ao (nmD J) R).length:=by rw [Av (n:=3) inferInstance,Int.toNat_natCast];omega
 have ld0:=CH (f:=nmD J) (n:=3) inferInstance hx
 have hbl:0<(Ao (nmD J) F).length:=Cr (n:=3) inferInstance (by decide) (by omega)
 have hbr:(Ao (nmD J) F).length=(Ao (nmD J) R).length:=by rw [Av (n:=3) inferInstance,Av (n:=3) inferInstance,hFl,hRl]
 refine Aj Tryz.func89 rfl rfl rfl rfl rfl rfl ?_
 intro W0 base D μ0 hA hD
 repeat (first|refine Ag ?_|refine Ac ?_|refine Aa rfl ?_|refine Ab rfl ?_|refine Am ?_|refine An ?_|refine Ad ?_|refine Ae ?_)
 refine A8 (ss:= [(4,.one (.ptr 4 0)),(5,.one (.gl 26 (n+1) 3)),(6,.one (.ptr 6 0)),(9,.one (.ptr 9 0)),(10,Ay (n:Nat))]) (bs:= [(4,nmC 2 0),(6,nmC ((n+1)*j+2) S),(9,nmC (jt+2) (BV t)),(26,Ao (nmD J) R)]) ?_ ?_
 ·refine Cu ?_ ?_ rfl
  ·exact Jb
  ·repeat (first|exact Ak|(refine List.forall_mem_cons.2 ⟨?_,?_⟩;focus (first|exact AN inferInstance|(exact I6 (z:=(Ao (nmD J) F).length) inferInstance H6.whole (by rw [hbr];exact Av inferInstance _))|(refine AG rfl ?_ rfl;focus (exact CI;done)))))
 repeat (first|refine Ag ?_|refine Ac ?_|refine Aa rfl ?_|refine Ab rfl ?_|refine Am ?_|refine An ?_|refine Ad ?_|refine Ae ?_)
 refine Ap (And.intro (Or.inr rfl) ?_)
 exact AA
theorem SY {j jt N J:Nat} {l:List Rat} {t:Rat} (hl:l.length=N+1) (hN:N≤1000) (hj:j≤J) (hJ:J≤1000000) (hjt:jt≤1000000) (hr: ∀k i,k+i≤N→RSz J (AF t (1-t) (cf l) k i)):
  Ctr Tryz.prog Amb 53 [.one (AH j l),nm jt t] (nm J (CB t (cf l) N)):=by
 have T1:=Lt (j:=j) (jt:=jt) (N:=N) (J:=J) (l:=l) (t:=t) hl hN hj hJ hjt hr
 obtain ⟨L,hL⟩: ∃L,L=tab (N+1) (CB t (cf l)):=⟨_,rfl⟩
 unfold EX at T1
 rw [←hL] at T1
 have hLl:L.length=N+1:=by rw [hL];simp
 have hx:L[((N:Nat):Int).toNat]?=some (CB t (cf l) N):=by rw [hL];exact CG (by omega)
 have hdn:=Cl (k:= .i64) (show (IntKind.i64).wrap ((L.length:Int)-1)=(N:Int) by rw [show ((L.length:Int)-1)=(N:Int) by omega];exact IntWalk.i64_in _ (by omega))
 refine Aj Tryz.func53 rfl rfl rfl rfl rfl rfl ?_
 intro W0 base D μ0 hA hD
 repeat (first|refine Ag ?_|refine Ac ?_|refine Aa rfl ?_|refine Ab rfl ?_|refine Am ?_|refine An ?_|refine Ad ?_|refine Ae ?_)
 refine Ap (And.intro (Or.inr rfl) ?_)
 exact AA
theorem IB.scale {D B:Nat} {x:Rat} (h:IB D B x) (c:Nat):IB (D*c) (B*c) x:=by
 obtain ⟨k,hk,hb⟩:=h
 refine ⟨k*c,?_,?_⟩
 ·rw [Int.natCast_mul,Rat.intCast_mul,Rat.intCast_mul,←hk,Rat.mul_assoc]
 ·rw [Int.natAbs_mul]
  exact Nat.mul_le_mul hb (by simp)
theorem Qt {j n:Nat} {l:List Rat} (hl:l.length=n+1) (hr: ∀r∈l,RSz j r): ∃M B:Nat,0<M∧Sz (2+(n+1)*j) M∧Sz (2+(n+1)*j+j) B∧ ∀i,i≤n→IB M B (cf l i):=by
 obtain ⟨M,hM0,_,hMS,hMsz,hint⟩:=FV l 1 2 (by decide) (Al _ _ (by decide)) hr
 rw [hl] at hMsz
 refine ⟨M,4294967296^(2+(n+1)*j+j)-1,hM0,hMsz,Al _ _ (by have:=Nat.pow_pos (n:=2+(n+1)*j+j) (show 0<4294967296 by decide);omega),fun i hi=>?_⟩
 have hlt:i<l.length:=by omega
 have hm:cf l i∈l:=by
  unfold cf
  rw [List.getD_eq_getElem?_getD,Yv hlt]
  exact List.getElem_mem hlt
 obtain ⟨z,h1,h2⟩:=IZ.scaled hMsz (hr _ hm) (hint _ hm)
 refine ⟨z,by rw [←h1,Rat.mul_comm],?_⟩
 have h3:=Cw z.natAbs
 have h4:(4294967296:Nat)^(toL z.natAbs).length≤4294967296^(2+(n+1)*j+j):=Nat.pow_le_pow_right (by decide) h2
 omega
theorem W9 {jt:Nat} {t:Rat} (h:RSz jt t): ∃E U V:Nat,0<E∧Sz jt E∧Sz (jt+1) (U+V)∧IB E U t∧IB E V (1-t):=by
 obtain ⟨⟨z,h1,h2⟩,w,h3,h4⟩:=KJ h
 have e:BV t=((t.den:Int):Rat):=rfl
 refine ⟨t.den,t.num.natAbs,(t.den-t.num).natAbs,t.den_pos,h.2,?_,IB.of_rsz (J:=jt),(t.den:Int)-t.num,?_,Yu _⟩
 ·by_cases hn:0≤t.num∧t.num≤t.den
  ·exact h.2.mono (Nat.le_succ jt) |>.le (by omega)
  ·have h5:t.num.natAbs+((t.den:Int)-t.num).natAbs≤2*t.num.natAbs+t.den:=by omega
   have h6:Sz (jt+1) (2*t.num.natAbs+t.den):=by
    have a1:=Cw t.num.natAbs
    have a2:=Cw t.den
    have b1:(4294967296:Nat)^(toL t.num.natAbs).length≤4294967296^jt:=Nat.pow_le_pow_right (by decide) h.1
    have b2:(4294967296:Nat)^(toL t.den).length≤4294967296^jt:=Nat.pow_le_pow_right (by decide) h.2
    refine Al _ _ ?_
    rw [Nat.pow_succ]
    omega
   exact h6.le h5
 ·have e1:(1-t)*((t.den:Int):Rat)=((t.den:Int):Rat)-t*((t.den:Int):Rat):=by grind
  rw [e1,EM,Rat.intCast_sub]
theorem G8 {j jt n J:Nat} {l:List Rat} {t:Rat} (hl:l.length=n+1) (hr: ∀r∈l,RSz j r) (ht:RSz jt t) (hJ:2+(n+1)*j+j+(n*(jt+1)+1)≤J): ∀k i,k+i≤n→RSz J (AF t (1-t) (cf l) k i):=by
 obtain ⟨M,B,hM0,hM,hB,hib⟩:=Qt hl hr
 obtain ⟨E,U,V,hE0,hE,hUV,hu,hv⟩:=W9 ht
 intro k i hki
 have h:=GD hib hu hv k i hki
 have hk1:k*jt≤n*(jt+1):=Nat.mul_le_mul (by omega) (by omega)
 have hk2:k*(jt+1)≤n*(jt+1):=Nat.mul_le_mul (by omega) (Yu _)
 exact h.rsz (Nat.mul_pos hM0 (Nat.pow_pos hE0)) ((hM.mul (hE.pow k)).mono (by omega)) ((hB.mul (hUV.pow k)).mono (by omega))
theorem Rj {j jt ju n J:Nat} {l:List Rat} {a t:Rat} (hl:l.length=n+1) (hr: ∀r∈l,RSz j r) (ha:RSz jt a) (ht:RSz ju t) (hJ:2+(n+1)*j+j+(n*(jt+1)+1)+(n*(jt+1)+1)+(n*(ju+1)+1)≤J): ∀k i,k+i≤n→RSz J (AF t (1-t) (cf (tab (n+1) (Fc a (cf l) n))) k i):=by
 obtain ⟨M,B,hM0,hM,hB,hib⟩:=Qt hl hr
 obtain ⟨E,U,V,hE0,hE,hUV,hu,hv⟩:=W9 ha
 obtain ⟨E2,U2,V2,hE20,hE2,hUV2,hu2,hv2⟩:=W9 ht
 obtain ⟨b2,hb2⟩: ∃b2,b2=2+(n+1)*j+j+(n*(jt+1)+1)+(n*(jt+1)+1):=⟨_,rfl⟩
 rw [←hb2] at hJ
 have hq: ∀i,i≤n→IB (M*E^n) (4294967296^b2-1) (cf (tab (n+1) (Fc a (cf l) n)) i):=fun i hi=>by
  have e:cf (tab (n+1) (Fc a (cf l) n)) i=AF a (1-a) (cf l) (n-i) i:=FZ 0 (by omega)
  rw [e]
  have h:=(GD hib hu hv (n-i) i (by omega)).scale (E^i)
  rw [Nat.mul_assoc,←Nat.pow_add,show n-i+i=n by omega] at h
  refine h.mono ?_
  have hk1:(n-i)*(jt+1)≤n*(jt+1):=Nat.mul_le_mul (by omega) (Yu _)
  have hk2:i*jt≤n*(jt+1):=Nat.mul_le_mul hi (by omega)
  have h2:Sz b2 (B*(U+V)^(n-i)*E^i):=((hB.mul (hUV.pow (n-i))).mul (hE.pow i)).mono (by omega)
  have h3:=Cw (B*(U+V)^(n-i)*E^i)
  have h4:(4294967296:Nat)^(toL (B*(U+V)^(n-i)*E^i)).length≤4294967296^b2:=Nat.pow_le_pow_right (by decide) h2
  omega
 intro k i hki
 have h:=GD hq hu2 hv2 k i hki
 have hk1:k*ju≤n*(ju+1):=Nat.mul_le_mul (by omega) (by omega)
 have hk2:k*(ju+1)≤n*(ju+1):=Nat.mul_le_mul (by omega) (Yu _)
 have hk3:n*jt≤n*(jt+1):=Nat.mul_le_mul_left _ (by omega)
 have hBs:Sz b2 (4294967296^b2-1):=Al _ _ (by have:=Nat.pow_pos (n:=b2) (show 0<4294967296 by decide);omega)
 exact h.rsz (Nat.mul_pos (Nat.mul_pos hM0 (Nat.pow_pos hE0)) (Nat.pow_pos hE20)) (((hM.mul (hE.pow n)).mul (hE2.pow k)).mono (by omega)) ((hBs.mul (hUV2.pow k)).mono (by omega))
theorem P9 {j jt n J:Nat} {l:List Rat} {a b:Rat} (hl:l.length=n+1) (hn:n≤40) (hj:j≤100) (hjt:jt≤100) (hr: ∀r∈l,RSz j r) (ha:RSz jt a) (hb:RSz jt b) (hJ:J=100000) (h1:a≠Cy):
  Ctr Tryz.prog Amb 97 [.one (AH j l),nm jt a,nm jt b] (.one (EX J (n+1) (IM a b (cf l) n))):=by
 have hNA:(n+1)*j≤41*100:=Nat.mul_le_mul (by omega) hj
 have hNB:n*(jt+1)≤40*101:=Nat.mul_le_mul hn (by omega)
 have hNC:n*(3*jt+10+1)≤40*311:=Nat.mul_le_mul hn (by omega)
 have I1:=Ql (n:=1) rfl
 have S1:=LN (j:=jt) (k:=2) (x:=a) (y:=Cy)
 rw [decide_eq_false h1] at S1
 have hne:Cy-a≠0:=by
  have:Cy=1:=rfl
  rw [this] at h1⊢
  intro h0
  exact h1 (by grind)
 have D1:=Qk (j:=jt) (k:=jt) (x:=b) (y:=a) (by omega) (by omega)
 have D2:=Qk (j:=2) (k:=jt) (x:=Cy) (y:=a) (by omega) (by omega)
 have O1:=Xh (j:=jt+jt+3) (k:=2+jt+3) (x:=b-a) (y:=Cy-a) (by omega) (by omega) hne
 have ht:RSz (3*jt+10) ((b-a)/(Cy-a)):=(He (hb.sub ha) ((Eo 1 (by decide) (by decide)).sub ha) hne).mono (by omega)
 have T1:=Lt (j:=j) (jt:=jt) (N:=n) (J:=J) (l:=l) (t:=a) hl (by omega) (by omega) (by omega) (by omega) (G8 hl hr ha (by omega))
 have T2:=Lt (j:=J) (jt:=jt+jt+3+(2+jt+3)+2) (N:=n) (J:=J) (l:=tab (n+1) (Fc a (cf l) n)) (t:=(b-a)/(Cy-a)) BC (by omega) (by omega) (by omega) (by omega) (Rj hl hr ha ht (by omega))
 have e:tab (n+1) (CB ((b-a)/(Cy-a)) (cf (tab (n+1) (Fc a (cf l) n))))=tab (n+1) (IM a b (cf l) n):=AL fun i hi=>by
  show AF _ _ _ i 0=AF ((b-a)/(1-a)) (1-(b-a)/(1-a)) (Fc a (cf l) n) i 0
  exact ED fun q hq=>FZ 0 (by omega)
 unfold EX at T1 T2⊢
 rw [e] at T2
 generalize tab (n+1) (IM a b (cf l) n)=R at*
 generalize tab (n+1) (Fc a (cf l) n)=q at*
 clear e
 refine Aj Tryz.func97 rfl rfl rfl rfl rfl rfl ?_
 intro W0 base D μ0 hA hD
 repeat (first|refine Ag ?_|refine Ac ?_|refine Aa rfl ?_|refine Ab rfl ?_|refine Am ?_|refine An ?_|refine Ad ?_|refine Ae ?_)
 refine Ap (And.intro (Or.inr rfl) ?_)
 exact AA
theorem W8 {j jt n J:Nat} {l:List Rat} {a b:Rat} (hl:l.length=n+1) (hn:n≤40) (hj:j≤100) (hjt:jt≤90) (hr: ∀r∈l,RSz j r) (ha:RSz jt a) (hb:RSz jt b) (hJ:J=100000):
  Ctr Tryz.prog Amb 97 [.one (AH j l),nm jt a,nm jt b] (.one (EX J (n+1) (bpR l n a b))):=by
 unfold bpR
 by_cases h1:a=Cy
 ·rw [if_pos h1]
  have hb':RSz (jt+5) (Cy-b):=((Eo 1 (by decide) (by decide)).sub hb).mono (by omega)
  have P0:=P9 (j:=j) (jt:=jt+5) (n:=n) (J:=J) (l:=l.reverse) (a:=0) (b:=Cy-b) (by rw [List.length_reverse];exact hl) hn hj (by omega) (fun r hr'=>hr r (List.mem_reverse.1 hr')) ⟨Al _ _ (Nat.pow_pos (by decide)),Al _ _ (Nat.one_lt_pow (by omega) (by decide))⟩ hb' hJ (by decide)
  have I1:=Ql (n:=1) rfl
  have S1:=LN (j:=jt) (k:=2) (x:=a) (y:=Cy)
  rw [decide_eq_true h1] at S1
  have D1:=Qk (j:=2) (k:=jt) (x:=Cy) (y:=b) (by omega) (by omega)
  have Mi:=SX (j:=j) (l:=l) (by omega) (by omega)
  unfold EX at P0⊢
  generalize tab (n+1) (IM 0 (Cy-b) (cf l.reverse) n)=R at*
  refine Aj Tryz.func97 rfl rfl rfl rfl rfl rfl ?_
  intro W0 base D μ0 hA hD
  repeat (first
   | refine Ag ?_|refine Ac ?_|refine Aa rfl ?_|refine Ab rfl ?_
   | ((first|refine AQ (by kernel_rfl) ?_|refine BO (by kernel_rfl) (by kernel_rfl) (by kernel_rfl) ?_)
      repeat (first
       | refine AK (hl:=?_)
       | refine As (hl:=?_)
       | refine BB (hl:=?_)
       | refine AO (hl:=?_)
       | refine Fb (hl:=?_)
       | refine BP (hl:=?_)
       | refine BL (hl:=?_)
       | refine BM (hl:=?_)
       | refine Fa (hl:=?_)
       | refine AY (hl:=?_)
       | refine AD hA (hc:=I1) (hl:=?_)
       | refine AD hA (hc:=S1) (hl:=?_)
       | refine AD hA (hc:=D1) (hl:=?_)
       | refine AD hA (hc:=Mi) (hl:=?_)
       | refine Df hA (hc:=P0) (hl:=?_))
      apply Ah.nil;try refine And.intro (by kernel_rfl) ?_)
   | refine Ad ?_|refine Ae ?_)
  refine Ap (And.intro (Or.inr rfl) ?_)
  exact AA
 ·rw [if_neg h1]
  exact P9 hl hn hj (by omega) hr ha hb hJ h1
def Ny (l:List Int):Nat→List Rat×Nat→List Rat×Nat
 | 0,s=>s
 | m+1,s=>Ny l m (s.1++ [(GS l s.2).1],(GS l s.2).2)
theorem Nx {l:List Int} : ∀ {m:Nat} {s:List Rat×Nat},(Ny l m s).1.length=s.1.length+m
 | 0,_=>rfl
 | m+1,s=>by
   show (Ny l m _).1.length=_
   rw [Nx (m:=m),List.length_append];simp;omega
theorem T0 (l:List Int) (n:Nat):RSz 2 (GS l n).1:=by
 obtain ⟨a1,a2,_⟩:=D5 l n (m:=13) (by decide)
 obtain ⟨c1,c2,_⟩:=D5 l (nxt l (nxt l n 13).2 4).2 (m:=4) (by decide)
 unfold GS
 simp only
 split
 ·have hn:RSz 1 (((nxt l n 13).1-6:Int):Rat):=⟨by
   rw [Rat.num_intCast];exact Al _ _ (by omega),by rw [Rat.den_intCast];exact Al _ _ (by decide)⟩
  have hd:RSz 1 ((1+(nxt l (nxt l (nxt l n 13).2 4).2 4).1:Int):Rat):=⟨by
   rw [Rat.num_intCast];exact Al _ _ (by omega),by rw [Rat.den_intCast];exact Al _ _ (by decide)⟩
  refine He hn hd ?_
  intro h0
  have h1:((1+(nxt l (nxt l (nxt l n 13).2 4).2 4).1:Int):Rat)=((0:Int):Rat):=h0
  have:=Rat.intCast_inj.1 h1
  omega
 ·exact Eo _ (by omega) (by omega)
theorem Nw {l:List Int} : ∀ {m:Nat} {s:List Rat×Nat},(∀r∈s.1,RSz 2 r)→ ∀r∈(Ny l m s).1,RSz 2 r
 | 0,_,h=>h
 | m+1,s,h=>Nw (m:=m) fun r hr=>by
   rcases List.mem_append.1 hr with h1|h1
   ·exact h r h1
   ·rw [List.mem_singleton.1 h1];exact T0 l s.2
def PC (p:Rat→Bool):Nat→List Rat→Int
 | _,[]=> -1
 | i,x::l=>if p x then (i:Int) else PC p (i+1) l
theorem NU (p:Rat→Bool): ∀(l:List Rat) (i:Nat),decide (PC p i l≥0)=l.any p
 | [],_=>rfl
 | x::l,i=>by
   show decide ((if p x then (i:Int) else PC p (i+1) l)≥0)=(p x || l.any p)
   cases hp:p x with
   | true=>rw [if_pos rfl];simp
   | false=>rw [if_neg (by simp),NU p l (i+1)];rfl
theorem Tr {g:FuncId} [hG:Fun Tryz.prog g] {j:Nat} {l:List Rat} {p:Rat→Bool} (hl:l.length≤1000000) (H: ∀x∈l,Ctr Tryz.prog Amb g [nm j x] (.one (.v (.bool (p x))))):
  Ctr Tryz.prog Amb 211 [.one (AH j l),.one (.fn g [])] (.one (.v (.int .i64 (PC p 0 l)))):=by
 obtain ⟨R,hR⟩: ∃R,R=PC p 0 l:=⟨_,rfl⟩
 rw [←hR]
 refine Aj Tryz.func211 rfl rfl rfl rfl rfl rfl ?_
 intro W0 base D μ0 hA hD
 repeat (first|refine Ag ?_|refine Ac ?_|refine Aa rfl ?_|refine Ab rfl ?_|refine Am ?_|refine An ?_|refine Ad ?_|refine Ae ?_)
 refine AW (fun m σ=> ∃(i:Nat),m=l.length-i∧i≤l.length∧PC p i (l.drop i)=R∧Wk ⟨W0,base,D,19,[],μ0⟩ σ [(0,.one (AH j l)),(1,.one (.fn g [])),(7,Ay (l.length:Nat)),(8,Ay (i:Nat))] []) (n:=l.length) ⟨0,by omega,by omega,hR.symm,?_⟩ ?_
 ·exact BF
 intro m σ hI
 obtain ⟨i,hm,hi0,hS,hw⟩:=hI
 refine A8 hw ?_
 clear hw
 by_cases hi:i<l.length
 ·obtain ⟨x,hx,hx'⟩:=Ge hi
  have bi:=AS (k:= .i64) (decide_eq_true (show (i:Int)<(l.length:Int) by omega))
  have hin:=BW (k:= .i64) (show (IntKind.i64).wrap ((i:Int)+1)=((i+1:Nat):Int) from IntWalk.i64_in _ (by omega))
  have H1:=H x (List.mem_of_getElem? hx')
  rw [QE hx'] at hS
  replace hS:(if p x then (i:Int) else PC p (i+1) (l.drop (i+1)))=R:=hS
  cases hp:p x with
  | true=>
    rw [hp,if_pos rfl] at hS
    rw [hp] at H1
    repeat (first|refine Ag ?_|refine Ac ?_|refine Aa rfl ?_|refine Ab rfl ?_|refine Am ?_|refine An ?_|refine Ad ?_|refine Ae ?_)
    rw [←hS]
    refine Ap (And.intro (Or.inr rfl) ?_)
    exact AA
  | false=>
    rw [hp,if_neg (by simp)] at hS
    rw [hp] at H1
    repeat (first|refine Ag ?_|refine Ac ?_|refine Aa rfl ?_|refine Ab rfl ?_|refine Am ?_|refine An ?_|refine Ad ?_|refine Ae ?_)
    refine ⟨m-1,by omega,i+1,by omega,by omega,hS,?_⟩
    exact BF
 ·have bi:=AS (k:= .i64) (decide_eq_false (show ¬(i:Int)<(l.length:Int) by omega))
  rw [List.drop_eq_nil_of_le (by omega)] at hS
  replace hS:(-1:Int)=R:=hS
  subst hS
  repeat (first|refine Ag ?_|refine Ac ?_|refine Aa rfl ?_|refine Ab rfl ?_|refine Am ?_|refine An ?_|refine Ad ?_|refine Ae ?_)
  refine Ap (And.intro (Or.inr rfl) ?_)
  exact AA
theorem M9 {g:FuncId} [hG:Fun Tryz.prog g] {j:Nat} {l:List Rat} {p:Rat→Bool} (hl:l.length≤1000000) (H: ∀x∈l,Ctr Tryz.prog Amb g [nm j x] (.one (.v (.bool (p x))))):
  Ctr Tryz.prog Amb 160 [.one (AH j l),.one (.fn g [])] (.one (.v (.bool (l.any p)))):=by
 have I1:=Tr (j:=j) hl H
 have bg:=D7 (k:= .i64) (NU p l 0)
 refine Aj Tryz.func160 rfl rfl rfl rfl rfl rfl ?_
 intro W0 base D μ0 hA hD
 repeat (first|refine Ag ?_|refine Ac ?_|refine Aa rfl ?_|refine Ab rfl ?_|refine Am ?_|refine An ?_|refine Ad ?_|refine Ae ?_)
 refine Ap (And.intro (Or.inr rfl) ?_)
 exact AA
theorem Ti {j:Nat} {x:Rat} (hj:j≤16):Ctr Tryz.prog Amb 161 [nm j x] (.one (.v (.bool false))):=by
 have V1:=Wj (j:=j) (x:=x) hj
 refine Aj Tryz.func161 rfl rfl rfl rfl rfl rfl ?_
 intro W0 base D μ0 hA hD
 repeat (first|refine Ag ?_|refine Ac ?_|refine Aa rfl ?_|refine Ab rfl ?_|refine Am ?_|refine An ?_|refine Ad ?_|refine Ae ?_)
 refine Ap (And.intro (Or.inr rfl) ?_)
 exact AA
theorem Th {j:Nat} {l:List Rat} (h1:0<l.length) (h2:l.length≤41) (hj:j≤16):Ctr Tryz.prog Amb 86 [.one (AH j l)] (.one (.v (.bool true))):=by
 have P1:=FE (j:=j) h1 h2
 have C1:=M9 (g:=161) (j:=j) (l:=l) (p:=fun _=>false) (by omega) (fun x _=>Ti hj)
 have e:l.any (fun _=>false)=false:=by simp
 rw [e] at C1
 refine Aj Tryz.func86 rfl rfl rfl rfl rfl rfl ?_
 intro W0 base D μ0 hA hD
 repeat (first|refine Ag ?_|refine Ac ?_|refine Aa rfl ?_|refine Ab rfl ?_|refine Am ?_|refine An ?_|refine Ad ?_|refine Ae ?_)
 refine Ap (And.intro (Or.inr rfl) ?_)
 exact AA
section
variable {P:Program} {X:Ctx} {ops l:List Oper} {σ:St} {K:List Eff→St→Prop} {dst:Option Tmp} {ty:TypeId} {pos:String} {af:Array Edge} {gd:Option (Nat×Bool)}
theorem RZ {s:Nat→AV} {t u:TypeId} {x y:Operand} {a b:ByteArray} (hx:evC s x= .one (.v (.string a))) (hy:evC s y= .one (.v (.string b))) (hab:a=b):Dc P ⟨dst,.binOp .eql t x y u,ty,pos,af,gd⟩ s (.one (.v (.bool true))):=fun W0 μ sz w ρ hρ=>by
 have h:=hρ x (by simp [Op.operands])
 rw [hx] at h
 replace h:ρ x= .string a:=h
 have h':=hρ y (by simp [Op.operands])
 rw [hy] at h'
 replace h':ρ y= .string b:=h'
 refine ⟨.bool true,?_,rfl⟩
 have h4:(binOp .eql t (.string a) (.string b)).run P w= .ok (.bool true) w:=by
  show (Op.stringOp .eql a b).run P w=_
  rw [hab]
  show Result.ok (Value.bool (b.toList==b.toList)) w=_
  rw [beq_self_eq_true]
 have h5:(eqGuard .eql t x y (.string a) (.string b)).run P w= .ok () w:=rfl
 show (do let v←(do eqGuard .eql t x y (ρ x) (ρ y);binOp .eql t (ρ x) (ρ y):Sem Value);pure (Next.value v):Sem Next).run P w=_
 rw [h,h',Sem.run_bind,Sem.run_bind,h5,Result.andThen_ok,h4]
 rfl
theorem WY {t u:TypeId} {x y:Operand} {a b:ByteArray} (hg:gOk ops σ.s gd) (hd:dB X.n dst=true) (hx:evC σ.s x= .one (.v (.string a))) (hy:evC σ.s y= .one (.v (.string b))) (hc:a=b) (hl:Ah P X ops l (σ.app dst ⟨.one (.v (.bool true)),[],[],[]⟩) (fun es σ'=>K (⟨.one (.v (.bool true)),[],[],[]⟩::es) σ')):
  Ah P X ops (⟨dst,.binOp .eql t x y u,ty,pos,af,gd⟩::l) σ K:=BR (o:=⟨dst,.binOp .eql t x y u,ty,pos,af,gd⟩) hg hd (RZ hx hy hc) hl
theorem WS {t u:TypeId} {x y:Operand} {a b:ByteArray} (hg:gOk ops σ.s gd:=by first|exact trivial|exact rfl) (hd:dB X.n dst=true:=by exact rfl) (hx:evC σ.s x= .one (.v (.string a)):=by exact rfl) (hy:evC σ.s y= .one (.v (.string b)):=by exact rfl) (hc:a=b:=by exact rfl) (hl:Ah P X ops l (σ.app dst ⟨.one (.v (.bool true)),[],[],[]⟩) (fun es σ'=>K (⟨.one (.v (.bool true)),[],[],[]⟩::es) σ')):
  Ah P X ops (⟨dst,.binOp .eql t x y u,ty,pos,af,gd⟩::l) σ K:=WY hg hd hx hy hc hl
end
theorem Qj {j:Nat} {x:Rat} {s:ByteArray} (hj:j≤100000) (h:(P7 x).toArray=s.data):Ctr Tryz.prog Amb 79 [nm j x] (.one (.v (.string s))):=by
 have:=Xg (x:=x) hj
 rw [h] at this
 exact this
theorem Ctr.nmTo {P:Program} {A:World→Prop} {f:FuncId} {args:List AV} {j k:Nat} {x y:Rat} (h:Ctr P A f args (nm j x)) (hs:RSz k y) (e:x=y):Ctr P A f args (nm k y):=by
 subst e
 exact BJ.weak h (Ents.of_eq rfl) (Ent.agg (.cons (.qs hs) (.cons (.qs hs) (.cons (.qs hs) .nil))))
theorem IX {k:Nat} {x:Rat} (h:(decide (x.num.natAbs<4294967296)&&decide (x.den<4294967296))=true) (hk:1≤k):RSz k x:=by
 rw [Bool.and_eq_true,decide_eq_true_eq,decide_eq_true_eq] at h
 exact ⟨Nat.le_trans (Al x.num.natAbs 1 (by omega)) hk,Nat.le_trans (Al x.den 1 (by omega)) hk⟩
abbrev Uf:Rat:=((1:Int):Rat)/((2:Int):Rat)
end Go.Proofs.YtfineedhebhpaaaGreatDoor
