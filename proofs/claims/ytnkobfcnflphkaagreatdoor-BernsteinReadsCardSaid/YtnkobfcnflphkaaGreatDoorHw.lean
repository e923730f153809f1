/-
  Several texts in one: Zg, Zh, Zi.
-/
import Derived.Test.YtnkobfcnflphkaaGreatDoorHx
import Derived.Test.YtnkobfcnflphkaaGreatDoorHz
import Derived.Test.YtnkobfcnflphkaaGreatDoorGs
import Derived.Test.YtnkobfcnflphkaaGreatDoorHn
namespace Go.Proofs.YtnkobfcnflphkaaGreatDoor
open Go.RowKit
set_option linter.unusedVariables false
set_option linter.unusedSimpArgs false
set_option maxRecDepth 20000
set_option maxHeartbeats 4000000
theorem QY {M E:Nat} : ∀i:Nat,D9 ((M:Int):Rat) ((E:Int):Rat) i=(((M*E^i:Nat):Int):Rat)
 | 0=>by rw [Il,Nat.pow_zero,Nat.mul_one]
 | i+1=>by
   rw [Im,QY i,Nat.pow_succ,←Nat.mul_assoc,Int.natCast_mul (M*E^i),Rat.intCast_mul]
theorem UD {M E a b n:Nat} (hM:Sz a M) (hE:Sz b E): ∀i,i≤n→RSz (a+n*b+1) (D9 ((M:Int):Rat) ((E:Int):Rat) i):=fun i hi=>by
 rw [QY]
 refine (QH (hM.mul (hE.pow i)) (by omega)).mono ?_
 have:=Nat.mul_le_mul_right b hi
 omega
theorem PV {a q:Rat} (ha:a≠0) (hq:q≠0) (i:Nat):D9 a q i≠0:=Dq ha (FC hq i)
theorem KD {jt:Nat} {t:Rat} (h:RSz jt t):(∃z:Int,t*A0 t=(z:Rat)∧Sz (jt+1) z.natAbs)∧ ∃z:Int,A0 t-t*A0 t=(z:Rat)∧Sz (jt+1) z.natAbs:=by
 have e:t*A0 t=(t.num:Rat):=Gn t
 refine ⟨⟨t.num,e,h.1.mono (by omega)⟩,t.den-t.num,?_,?_⟩
 ·rw [e,Rat.intCast_sub];rfl
 ·have h1:((t.den:Int)-t.num).natAbs≤t.den+t.num.natAbs:=by omega
  exact (h.2.plus h.1).le h1
theorem Wa {j jt n J:Nat} {l:List Rat} {t:Rat} (hl:l.length=n+1) (hn:n≤40) (hj:j≤10000) (hjt:jt≤10000) (hr: ∀r∈l,RSz j r) (ht:RSz jt t) (hJ:J=(n+1)*j+j+n*(jt+2)+10):
  Ctr Tryz.prog Amb 54 [.one (Ap j l),nm jt t] (.tup [.one (Cs (J+J+2) (n+1) (Sq t (cf l))),.one (Cs (J+J+2) (n+1) (VE t (cf l) n))]):=by
 have hA:(n+1)*j≤41*10000:=Nat.mul_le_mul (by omega) hj
 have hB:n*(jt+2)≤40*10002:=Nat.mul_le_mul hn (by omega)
 obtain ⟨M,hM0,_,hMS,hMsz,hint⟩:=Dy l 1 2 (by decide) (Aj _ _ (by decide)) hr
 have P1:=Dd (j:=j) (l:=l) (by omega) (by omega)
 have W1:=FW (J:=J) hl (by omega) (by omega) hr (by omega)
 have R1:=QG (j:=jt) (t:=t) (by omega)
 obtain ⟨S,hS⟩: ∃S,S=whS DP l:=⟨_,rfl⟩
 rw [←hS] at W1
 have hSM:S=((M:Int):Rat):=hS.trans hMS
 have hS0:S≠0:=by rw [hSM];exact FE hM0
 clear hMS hS
 rw [hl] at hMsz
 have hE:Sz (jt+1) t.den:=ht.2.mono (by omega)
 have hz0:A0 t≠0:=by have:=JW t;intro h;rw [h] at this;exact absurd this (by decide)
 obtain ⟨hu,hd⟩:=KD ht
 have hcs:=Ku (a:=2+(n+1)*j) (jt:=jt+1) (n:=n) hl hr hMsz hSM hint hu hd
 have hgs:=UD (n:=n) hMsz hE
 rw [←hSM] at hgs
 replace hgs: ∀i,i≤n→RSz J (D9 S (A0 t) i):=fun i hi=>(hgs i hi).mono (by
  have:n*(jt+1)≤n*(jt+2):=Nat.mul_le_mul_left _ (by omega)
  omega)
 replace hcs: ∀k i,k+i≤n→RSz J (BO (t*A0 t) (A0 t-t*A0 t) (fun i=>S*l.getD i 0) k i):=fun k i h=>(hcs k i h).mono (by
  have:n*(jt+1+1)=n*(jt+2):=rfl
  omega)
 clear hint hMsz hSM hM0 hE hu hd hr
 have V1:=Nh (ju:=2*jt+4) (jd:=3*jt+9) (n:=n) (J:=J) (u:=t*A0 t) (d:=A0 t-t*A0 t) (f:=fun i=>S*l.getD i 0) (by omega) (by omega) (by omega) (by omega) hcs
 have G1:=Ix (ja:=(n+1)*j+2) (jq:=jt+2) (n:=n) (J:=J) (a:=S) (q:=A0 t) (by omega) (by omega) (by omega) (by omega) hgs
 have B1:=b11 (g:=134) (n:=n) (J:=J+J+2) (h:=Sq t (cf l)) (c0:=Cs J (n+1) fun k=>BO (t*A0 t) (A0 t-t*A0 t) (fun i=>S*l.getD i 0) k 0) (c1:=Cs J (n+1) (D9 S (A0 t))) rfl rfl rfl rfl (k1:=12) (k2:=13) (by omega) (fun i hi=>by
  rw [←Ri (f:=cf l) (i:=i) hS0 hz0 rfl rfl]
  exact TB (A8 (g:=fun k=>BO (t*A0 t) (A0 t-t*A0 t) (fun i=>S*l.getD i 0) k 0) (by omega)) (A8 (by omega)) (by omega) (by omega) (PV hS0 hz0 i)) (by decide)
 have B2:=YU (g:=135) (n:=n) (J:=J+J+2) (h:=VE t (cf l) n) (c0:=Cs J (n+1) fun q=>BO (t*A0 t) (A0 t-t*A0 t) (fun i=>S*l.getD i 0) (n-q) q) (c1:=Cs J (n+1) (D9 S (A0 t))) (c2:= .v (.int .i64 (n:Nat))) rfl rfl rfl rfl rfl rfl (k1:=7) (k2:=13) (k3:=6) (by omega) (fun i hi=>by
  rw [←WT (f:=cf l) (n:=n) (i:=i) hS0 hz0 rfl rfl]
  exact TA (by omega) hi (A8 (g:=fun q=>BO (t*A0 t) (A0 t-t*A0 t) (fun i=>S*l.getD i 0) (n-q) q) (by omega)) (A8 (g:=D9 S (A0 t)) (by omega)) (by omega) (by omega) (PV hS0 hz0 _)) (by decide)
 have hdn:=BI (k:= .i64) (show (IntKind.i64).wrap ((l.length:Int)-1)=(n:Int) by rw [show ((l.length:Int)-1)=(n:Int) by omega];exact IntWalk.i64_in _ (by omega))
 clear hcs hgs
 obtain ⟨F,hF⟩: ∃F,F=tab (n+1) fun i=>S*l.getD i 0:=⟨_,rfl⟩
 obtain ⟨R,hR⟩: ∃R,R=tab (n+1) fun q=>BO (t*A0 t) (A0 t-t*A0 t) (fun i=>S*l.getD i 0) (n-q) q:=⟨_,rfl⟩
 obtain ⟨L,hL⟩: ∃L,L=tab (n+1) fun k=>BO (t*A0 t) (A0 t-t*A0 t) (fun i=>S*l.getD i 0) k 0:=⟨_,rfl⟩
 obtain ⟨G,hG⟩: ∃G,G=tab (n+1) (D9 S (A0 t)):=⟨_,rfl⟩
 have hFl:F.length=n+1:=by rw [hF];simp
 have hRl:R.length=n+1:=by rw [hR];simp
 unfold Cs at V1 G1 B1 B2
 rw [←hF] at W1 V1
 rw [←hR] at V1 B2
 rw [←hL] at V1 B1
 rw [←hG] at G1 B1 B2
 clear hF hR hL hG
 have hbl:0<(An (nmD J) F).length:=Cb (n:=3) inferInstance (by decide) (by omega)
 have hbr:(An (nmD J) F).length=(An (nmD J) R).length:=by rw [AA (n:=3) inferInstance,AA (n:=3) inferInstance,hFl,hRl]
 refine Am Tryz.func54 rfl rfl rfl rfl rfl rfl ?_
 intro W0 base D μ0 hA hD
 repeat (first|refine Af ?_|refine Ac ?_|refine Aa rfl ?_|refine Ab rfl ?_|refine Ak ?_|refine Al ?_|refine Ad ?_|refine Ae ?_)
 refine BG 26 hD (ss:= [(6,.one (.ptr 6 0)),(7,.one (.ptr 7 0)),(12,.one (.ptr 12 0)),(13,.one (.ptr 13 0))]) (bs:= [(6,[.v (.int .i64 (n:Nat))]),(7,[Ap J R]),(12,[Ap J L]),(13,[Ap J G])]) ?_ ?_
 ·refine UL ?_ ?_ rfl
  ·repeat (first|exact Aq|(refine List.forall_mem_cons.2 ⟨FzA.ent (Ent.of_eq rfl),?_⟩))
  ·refine List.forall_mem_cons.2 ⟨?_,?_⟩
   ·exact FQ.of (BB rfl (EntL.of_eq rfl) rfl)
   refine List.forall_mem_cons.2 ⟨?_,?_⟩
   ·exact FQ.gl (f:=nmD J) (l:=R) inferInstance (hz:=hbr)
   refine List.forall_mem_cons.2 ⟨?_,?_⟩
   ·exact FQ.of (BB rfl (EntL.of_eq rfl) rfl)
   refine List.forall_mem_cons.2 ⟨?_,?_⟩
   ·exact FQ.of (BB rfl (EntL.of_eq rfl) rfl)
   exact Aq
 repeat (first|refine Af ?_|refine Ac ?_|refine Aa rfl ?_|refine Ab rfl ?_|refine Ak ?_|refine Al ?_|refine Ad ?_|refine Ae ?_)
 refine As (And.intro (Or.inr rfl) ?_)
 exact Od
def IZ (b:Nat) (x:Rat):Prop:= ∃z:Int,x=(z:Rat)∧Sz b z.natAbs
theorem IZ.mono {b c:Nat} {x:Rat} (h:IZ b x) (hb:b≤c):IZ c x:=by
 obtain ⟨z,h1,h2⟩:=h
 exact ⟨z,h1,h2.mono hb⟩
theorem IZ.rsz {b:Nat} {x:Rat} (h:IZ b x) (h1:1≤b):RSz b x:=by
 obtain ⟨z,rfl,hz⟩:=h
 have e:((z:Int):Rat)=mkRat z 1:=by rw [Rat.mkRat_one]
 rw [e]
 exact RSz.of_mkRat hz (Aj _ _ (by
  have:(4294967296:Nat)^b≥4294967296^1:=Nat.pow_le_pow_right (by decide) h1
  omega)) (by decide)
theorem IZ.nat {b m:Nat} (h:Sz b m):IZ b ((m:Int):Rat):=⟨m,rfl,by simpa using h⟩
theorem IZ.mul {b c:Nat} {x y:Rat} (h:IZ b x) (k:IZ c y):IZ (b+c) (x*y):=by
 obtain ⟨z,rfl,hz⟩:=h
 obtain ⟨w,rfl,hw⟩:=k
 exact ⟨z*w,(Rat.intCast_mul _ _).symm,by rw [Int.natAbs_mul];exact hz.mul hw⟩
theorem IZ.sub {b:Nat} {x y:Rat} (h:IZ b x) (k:IZ b y):IZ (b+1) (x-y):=by
 obtain ⟨z,rfl,hz⟩:=h
 obtain ⟨w,rfl,hw⟩:=k
 exact ⟨z-w,(Rat.intCast_sub _ _).symm,(hz.plus hw).le (by omega)⟩
theorem IZ.pow {b:Nat} {x:Rat} (h:IZ b x) (k:Nat):IZ (k*b+1) (x^k):=by
 obtain ⟨z,rfl,hz⟩:=h
 refine ⟨z^k,?_,?_⟩
 ·induction k with
  | zero=>rfl
  | succ k ih=>rw [Rat.pow_succ,ih,Int.pow_succ,Rat.intCast_mul]
 ·rw [Int.natAbs_pow];exact hz.pow k
theorem IZ.scaled {a j:Nat} {M:Nat} {r:Rat} (hM:Sz a M) (hr:RSz j r) (h: ∃z:Int,((M:Int):Rat)*r=(z:Rat)):IZ (a+j) (((M:Int):Rat)*r):=by
 obtain ⟨z,hz⟩:=h
 refine ⟨z,hz,?_⟩
 have h1:(z:Rat)*((r.den:Int):Rat)=((M*r.num:Int):Rat):=by
  rw [←hz,Rat.intCast_mul,Rat.mul_assoc,Gn]
 have h2:z*r.den=M*r.num:=by rw [←Rat.intCast_mul] at h1;exact Rat.intCast_inj.1 h1
 have h3:z.natAbs*r.den=M*r.num.natAbs:=by
  have:=congrArg Int.natAbs h2
  rw [Int.natAbs_mul,Int.natAbs_mul] at this
  simpa using this
 refine (hM.mul hr.1).le ?_
 rw [←h3]
 exact Nat.le_mul_of_pos_right _ r.den_pos
theorem WC {m i:Nat} {c g:Nat→Rat} (hi:i<m):(tab m fun q=>if q<i then c q*g q else c q).set i (c i*g i)=tab m fun q=>if q<i+1 then c q*g q else c q:=
 Cm hi (if_pos (by omega)) fun q hq hqi=>by
  by_cases h:q<i
  ·rw [if_pos h,if_pos (by omega)]
  ·rw [if_neg h,if_neg (by omega)]
end Go.Proofs.YtnkobfcnflphkaaGreatDoor
