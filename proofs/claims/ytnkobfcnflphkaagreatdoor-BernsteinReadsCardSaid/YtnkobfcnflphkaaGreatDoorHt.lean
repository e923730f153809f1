/-
  Several texts in one: Zr, Zs.
-/
import Derived.Test.YtnkobfcnflphkaaGreatDoorHu
namespace Go.Proofs.YtnkobfcnflphkaaGreatDoor
open Nat renaming le_refl→Zc
open Go.RowKit
set_option linter.unusedVariables false
set_option linter.unusedSimpArgs false
set_option maxRecDepth 20000
set_option maxHeartbeats 4000000
theorem Wf {i:Nat} :Ctr Tryz.prog Amb 136 [At (i:Nat)] (nm 2 DP):=by
 have I1:=Vj (n:=1) rfl
 refine Am Tryz.func136 rfl rfl rfl rfl rfl rfl ?_
 intro W0 base D μ0 hA hD
 repeat (first|refine Af ?_|refine Ac ?_|refine Aa rfl ?_|refine Ab rfl ?_|refine Ak ?_|refine Al ?_|refine Ad ?_|refine Ae ?_)
 refine As (And.intro (Or.inr rfl) ?_)
 exact AX
theorem Up {f g:Nat→Rat} {d e k:Nat} (hg: ∀i,i≤e→g i=DP) (hk:k≤d+e):L8 f g d e k=BM f d e k:=by
 unfold L8
 have h1:Cq (wgt d f) (wgt e g) e (d+1) k=AF (d+e) k*BM f d e k:=by
  rw [Gu f d e k hk,←Ih]
  exact Ga (fun q _=>rfl) (fun q hq=>by
   unfold wgt
   rw [hg q hq]
   have:DP=1:=rfl
   rw [this,Rat.mul_one])
 rw [h1]
 exact Eg (Ek hk)
theorem Kv {j d n:Nat} {p:List Rat} (hp:p.length=d+1) (hd:d≤n) (hn:n≤40) (hj:j≤10000) (hr: ∀r∈p,RSz j r):
  Ctr Tryz.prog Amb 55 [.one (Ap j p),At (n:Nat)] (.tup [.one (Ap 5000000 (tab (n+1) (BM (cf p) d (n-d)))),At 0]):=by
 have B0:=b0 (g:=136) (n:=n-d) (J:=2) (h:=fun _=>DP) (by omega) (fun i _=>Wf)
 have h1:RSz 2 DP:=FX 1 (by decide) (by decide)
 have M1:=XS (j:=j) (k:=2) (m:=d) (n:=n-d) (p:=p) (q:=tab (n-d+1) fun _=>DP) hp Ef (by omega) hj (by decide) hr (fun r hr=>by
  obtain ⟨i,_,rfl⟩:=List.mem_map.1 hr
  exact h1)
 have e:tab (d+(n-d)+1) (L8 (cf p) (cf (tab (n-d+1) fun _=>DP)) d (n-d))=tab (n+1) (BM (cf p) d (n-d)):=by
  rw [show d+(n-d)+1=n+1 by omega]
  exact Ax fun k hk=>Up (fun i hi=>Ff 0 (by omega)) (by omega)
 rw [e] at M1
 have e1:=BI (k:= .i64) (show (IntKind.i64).wrap ((p.length:Int)-1)=(d:Int) by rw [show ((p.length:Int)-1)=(d:Int) by omega];exact IntWalk.i64_in _ (by omega))
 have e2:=AJ (k:= .i64) (decide_eq_false (show ¬(n:Int)<(d:Int) by omega))
 have e3:=DH (k:= .i64) (decide_eq_false (show ¬(n:Int)>40 by omega))
 have e4:=BI (k:= .i64) (show (IntKind.i64).wrap ((n:Int)-(d:Int))=((n-d:Nat):Int) by rw [show ((n:Int)-(d:Int))=((n-d:Nat):Int) by omega];exact IntWalk.i64_in _ (by omega))
 unfold Cs at B0
 generalize (tab (n-d+1) fun _=>DP)=q at*
 generalize tab (n+1) (BM (cf p) d (n-d))=R at*
 refine Am Tryz.func55 rfl rfl rfl rfl rfl rfl ?_
 intro W0 base D μ0 hA hD
 repeat (first|refine Af ?_|refine Ac ?_|refine Aa rfl ?_|refine Ab rfl ?_|refine Ak ?_|refine Al ?_|refine Ad ?_|refine Ae ?_)
 refine As (And.intro (Or.inr rfl) ?_)
 exact Od
theorem IB.add {D B C:Nat} {x y:Rat} (h:IB D B x) (k:IB D C y):IB D (B+C) (x+y):=by
 obtain ⟨z,h1,h2⟩:=h
 obtain ⟨w,k1,k2⟩:=k
 refine ⟨z+w,by rw [Rat.intCast_add,←h1,←k1];grind,Nat.le_trans (Int.natAbs_add_le _ _) (by omega)⟩
theorem IB.mul {D E B C:Nat} {x y:Rat} (h:IB D B x) (k:IB E C y):IB (D*E) (B*C) (x*y):=by
 obtain ⟨z,h1,h2⟩:=h
 obtain ⟨w,k1,k2⟩:=k
 refine ⟨z*w,by rw [Int.natCast_mul,Rat.intCast_mul,Rat.intCast_mul,←h1,←k1];grind,by rw [Int.natAbs_mul];exact Nat.mul_le_mul h2 k2⟩
theorem IB.zero {D B:Nat} :IB D B 0:=⟨0,by rw [Rat.zero_mul];rfl,Nat.zero_le _⟩
theorem Rf {a b:Nat→Rat} {D B m n:Nat} (ha: ∀i j,i≤m→j≤n→IB D B (a i*b j)): ∀i k,i≤m+1→IB D (i*B) (Cq a b n i k)
 | 0,_,_=>IB.zero
 | i+1,k,h=>by
   rw [Nat.succ_mul]
   refine IB.add (Rf ha i k (by omega)) ?_
   split
   ·rename_i hh;exact ha i (k-i) (by omega) (by omega)
   ·exact IB.zero
theorem Xt {j n:Nat} {l:List Rat} (hl:l.length=n+1) (hn:n≤40) (hr: ∀r∈l,RSz j r): ∃M B:Nat,0<M∧Sz (2+(n+1)*j) M∧Sz (4+(n+1)*j+j) B∧ ∀i,i≤n→IB M B (wgt n (cf l) i):=by
 obtain ⟨M,B,h1,h2,h3,h4⟩:=QU hl hr
 refine ⟨M,2199023255552*B,h1,h2,(Sz.mul (j:=2) (m:=2199023255552) (Aj _ _ (by decide)) h3).mono (by omega),fun i hi=>?_⟩
 have h5:IB 1 2199023255552 (AF n i):=⟨bin n i,by
  have:(((1:Nat):Int):Rat)=1:=rfl
  rw [this,Rat.mul_one],by have:=DV (n:=n) (k:=i) (by omega);simpa using this⟩
 have h6:=h5.mul (h4 i hi)
 rw [Nat.one_mul] at h6
 exact h6
theorem Hk {j d e:Nat} {l:List Rat} (hl:l.length=d+1) (hn:d+e≤40) (hr: ∀r∈l,RSz j r): ∀k,k≤d+e→RSz (10+(d+1)*j+j) (BM (cf l) d e k):=by
 obtain ⟨M,B,h1,h2,h3,h4⟩:=Xt hl (by omega) hr
 intro k hk
 have hb: ∀i q,i≤d→q≤e→IB M (B*2199023255552) (wgt d (cf l) i*AF e q):=fun i q hi hq=>by
  have h5:IB 1 2199023255552 (AF e q):=⟨bin e q,by
   have:(((1:Nat):Int):Rat)=1:=rfl
   rw [this,Rat.mul_one],by have:=DV (n:=e) (k:=q) (by omega);simpa using this⟩
  have h6:=(h4 i hi).mul h5
  rw [Nat.mul_one] at h6
  exact h6
 have hc:=Rf hb (d+1) k (Zc _)
 rw [Ih] at hc
 have he:=Gu (cf l) d e k hk
 have e2:BM (cf l) d e k=D0 (wgt d (cf l)) e (d+1) k/AF (d+e) k:=by
  show _=D0 (fun i=>AF d i*cf l i) e (d+1) k/AF (d+e) k
  rw [←he];exact (Eg (Ek hk)).symm
 rw [e2]
 have s1:Sz (8+(d+1)*j+j) ((d+1)*(B*2199023255552)):=(Sz.mul (j:=1) (m:=d+1) (Aj _ _ (by omega)) (Sz.mul (k:=2) (n:=2199023255552) h3 (Aj _ _ (by decide)))).mono (by omega)
 exact (Gj (hc.rsz h1 (h2.mono (by omega)) s1) (Fv (by omega)) (Ek hk)).mono (by omega)
theorem F6 {f g:Nat→Rat} {n i:Nat} (hn:0<n) (hi:i≤n) (h: ∀q,q<n→f q=g q):CY f n i=CY g n i:=by
 unfold CY
 by_cases h0:i=0
 ·rw [if_pos h0,if_pos h0,h 0 hn]
 ·rw [if_neg h0,if_neg h0]
  by_cases h1:i=n
  ·rw [if_pos h1,if_pos h1,h (n-1) (by omega)]
  ·rw [if_neg h1,if_neg h1,h i (by omega),h (i-1) (by omega)]
def Md (f:Nat→Rat) (n i q:Nat):Rat:=if q=0 then f 0 else if q=n then f (n-1) else if q<i then CY f n q else 0
theorem PR {f:Nat→Rat} {n:Nat} (hn:0<n):((List.replicate (n+1) (0:Rat)).set 0 (f 0)).set n (f (n-1))=tab (n+1) (Md f n 1):=by
 refine GD (by simp) fun q hq=>?_
 unfold Md
 by_cases h1:q=n
 ·subst h1
  rw [List.getElem?_set_self (by simp),if_neg (by omega),if_pos rfl]
 ·rw [List.getElem?_set_ne (Ne.symm h1)]
  by_cases h0:q=0
  ·subst h0
   rw [List.getElem?_set_self (by simp),if_pos rfl]
  ·rw [List.getElem?_set_ne (Ne.symm h0),List.getElem?_replicate,if_pos hq,if_neg h0,if_neg h1,if_neg (by omega)]
theorem Uu {f:Nat→Rat} {n i:Nat} (h1:1≤i) (hi:i<n) {x:Rat} (hx:x=CY f n i):(tab (n+1) (Md f n i)).set i x=tab (n+1) (Md f n (i+1)):=
 Cm (by omega) (by unfold Md;rw [if_neg (by omega),if_neg (by omega),if_pos (by omega),hx]) fun q hq hqi=>by
  unfold Md
  by_cases h0:q=0
  ·rw [if_pos h0,if_pos h0]
  ·rw [if_neg h0,if_neg h0]
   by_cases h2:q=n
   ·rw [if_pos h2,if_pos h2]
   ·rw [if_neg h2,if_neg h2]
    by_cases h3:q<i
    ·rw [if_pos h3,if_pos (by omega)]
    ·rw [if_neg h3,if_neg (by omega)]
theorem Uv {f:Nat→Rat} {n:Nat} :tab (n+1) (Md f n n)=tab (n+1) (CY f n):=Ax fun q hq=>by
 unfold Md
 by_cases h0:q=0
 ·rw [if_pos h0];unfold CY;rw [if_pos h0]
 ·rw [if_neg h0]
  by_cases h2:q=n
  ·rw [if_pos h2];unfold CY;rw [if_neg h0,if_pos h2]
  ·rw [if_neg h2,if_pos (by omega)]
theorem XI {j n J:Nat} {l:List Rat} (hl:l.length=n) (hn:1≤n∧n≤100) (hj:j≤J) (hJ:J≤1000000) (hz: ∀i,i≤n→RSz J (CY (cf l) n i)):
  Ctr Tryz.prog Amb 97 [.one (Ap j l)] (.one (Cs J (n+1) (CY (cf l) n))):=by
 have h1:=AL (k:= .i64) (show (IntKind.i64).wrap ((n:Int)+1)=((n+1:Nat):Int) from IntWalk.i64_in _ (by omega))
 have h2:=BI (k:= .i64) (show (IntKind.i64).wrap ((n:Int)-1)=((n-1:Nat):Int) by rw [show ((n:Int)-1)=((n-1:Nat):Int) by omega];exact IntWalk.i64_in _ (by omega))
 have hx:l[((0:Nat):Int).toNat]?=some (cf l 0):=FH (by omega)
 have hy:l[((n-1:Nat):Int).toNat]?=some (cf l (n-1)):=FH (by omega)
 have lt0:(0:Int)≤((0:Nat):Int)∧((0:Nat):Int)<((n+1:Nat):Int):=by omega
 have ltn:(0:Int)≤((n:Nat):Int)∧((n:Nat):Int)<((n+1:Nat):Int):=by omega
 have st0:((0:Nat):Int).toNat*3+3≤(An (nmD J) (List.replicate (n+1) (0:Rat))).length:=by rw [AA (n:=3) inferInstance,Int.toNat_natCast];simp;omega
 have stn:((n:Nat):Int).toNat*3+3≤(An (nmD J) (List.replicate (n+1) (0:Rat))).length:=by rw [AA (n:=3) inferInstance,Int.toNat_natCast];simp;omega
 have hst:=PR (f:=cf l) (n:=n) (by omega)
 have hz0:RSz J (cf l 0):=by have:=hz 0 (by omega);unfold CY at this;rwa [if_pos rfl] at this
 have hzn:RSz J (cf l (n-1)):=by have:=hz n (by omega);unfold CY at this;rwa [if_neg (by omega),if_pos rfl] at this
 subst hl
 refine Am Tryz.func97 rfl rfl rfl rfl rfl rfl ?_
 intro W0 base D μ0 hA hD
 repeat (first
  | refine Af ?_|refine Ac ?_|refine Aa rfl ?_|refine Ab rfl ?_
  | ((first|refine AI (by kernel_rfl) ?_|refine BL (by kernel_rfl) (by kernel_rfl) (by kernel_rfl) ?_)
     repeat (first
      | refine AZ (hl:=?_)
      | refine AC (hl:=?_)
      | refine BU (hl:=?_)
      | refine BN (hl:=?_)
      | refine B5 (hl:=?_)
      | refine AO (hl:=?_)
      | refine Cv (hl:=?_)
      | refine Cu (hl:=?_)
      | refine Cw (hl:=?_)
      | refine Cj (hl:=?_)
      | refine B8 (hl:=?_)
      | refine S9 (cap:=l.length+1) (by omega) (by omega) (by omega) (hl:=?_))
     apply Ai.nil;try refine And.intro (by kernel_rfl) ?_)
  | refine Ad ?_|refine Ae ?_)
 refine A5 (ss:= [(0,.one (Ap j l)),(3,At (l.length:Nat)),(4,.one (.gl 10 (l.length+1) 3))]) (bs:= [(10,An (nmD J) (List.replicate (l.length+1) 0))]) ?_ ?_
 ·exact AS
 repeat (first|refine Af ?_|refine Ac ?_|refine Aa rfl ?_|refine Ab rfl ?_|refine Ak ?_|refine Al ?_|refine Ad ?_|refine Ae ?_)
 refine AK (fun m σ=> ∃(i:Nat) (cur:List Rat),m=l.length-i∧1≤i∧i≤l.length∧cur=tab (l.length+1) (Md (cf l) l.length i)∧Wk ⟨W0,base,D,46,[],μ0⟩ σ [(0,.one (Ap j l)),(3,At (l.length:Nat)),(4,.one (.gl 10 (l.length+1) 3)),(5,At (i:Nat))] [(10,An (nmD J) cur)]) (n:=l.length-1) ⟨1,_,rfl,Zc _,hn.1,hst,?_⟩ ?_
 ·refine Dr ?_ ?_ rfl
  ·exact GY
  ·repeat (first|exact Aq|(refine List.forall_mem_cons.2 ⟨?_,?_⟩;focus (first|exact AN inferInstance|(exact Rj (z:=(An (nmD J) (List.replicate (l.length+1) (0:Rat))).length) inferInstance (IQ.set inferInstance (i:=l.length) (IQ.set inferInstance (i:=0) IQ.base (by simp) (Q5 rfl hz0)) (by simp) (Q5 rfl hzn)) (by rw [List.length_set,List.length_set];exact AA inferInstance _))|(refine BB rfl ?_ rfl;focus (exact BQ;done)))))
 clear hst hx hy hz0 hzn st0 stn lt0 ltn h1
 intro m σ hI
 obtain ⟨i,cur,hm,hi1,hi0,hcur,hw⟩:=hI
 refine A5 hw ?_
 clear hw
 have hcl:cur.length=l.length+1:=by rw [hcur];simp
 by_cases hi:i<l.length
 ·have bi:=AJ (k:= .i64) (decide_eq_true (show (i:Int)<(l.length:Int) by omega))
  have hin:=AL (k:= .i64) (show (IntKind.i64).wrap ((i:Int)+1)=((i+1:Nat):Int) from IntWalk.i64_in _ (by omega))
  have hdn:=BI (k:= .i64) (show (IntKind.i64).wrap ((i:Int)-1)=((i-1:Nat):Int) by rw [show ((i:Int)-1)=((i-1:Nat):Int) by omega];exact IntWalk.i64_in _ (by omega))
  have hx:l[((i:Nat):Int).toNat]?=some (cf l i):=FH hi
  have hy:l[((i-1:Nat):Int).toNat]?=some (cf l (i-1)):=FH (by omega)
  have F1:=LP (n:=(i:Int)) (d:=(l.length:Int)) (by
   rw [decide_eq_true (show-9223372036854775808≤(i:Int) by omega),decide_eq_true (show (i:Int)<9223372036854775808 by omega),decide_eq_true (show 1≤(l.length:Int) by omega),decide_eq_true (show (l.length:Int)<9223372036854775808 by omega)];rfl)
  have B1:=Sf (j:=j) (k:=j) (m:=2) (x:=cf l i) (y:=cf l (i-1)) (t:=((i:Int):Rat)/((l.length:Int):Rat)) (by omega) (by omega) (by omega)
  have he:cf l i+(cf l (i-1)-cf l i)*(((i:Int):Rat)/((l.length:Int):Rat))=CY (cf l) l.length i:=by unfold CY;rw [if_neg (by omega),if_neg (by omega)]
  have hz1:=hz i (by omega)
  have ht:=Uu (f:=cf l) hi1 hi rfl
  rw [←hcur,←he] at ht
  rw [←he] at hz1
  have lt1:(0:Int)≤((i:Nat):Int)∧((i:Nat):Int)<((l.length+1:Nat):Int):=by omega
  have st1:((i:Nat):Int).toNat*3+3≤(An (nmD J) cur).length:=by rw [AA (n:=3) inferInstance,hcl,Int.toNat_natCast];omega
  clear he
  generalize ((i:Int):Rat)/((l.length:Int):Rat)=t at*
  generalize cf l i=x at*
  generalize cf l (i-1)=y at*
  repeat (first|refine Af ?_|refine Ac ?_|refine Aa rfl ?_|refine Ab rfl ?_|refine Ak ?_|refine Al ?_|refine Ad ?_|refine Ae ?_)
  refine ⟨m-1,by omega,i+1,cur.set i (x+(y-x)*t),by omega,by omega,by omega,ht,?_⟩
  exact AS
 ·have bi:=AJ (k:= .i64) (decide_eq_false (show ¬(i:Int)<(l.length:Int) by omega))
  obtain rfl:i=l.length:=by omega
  rw [Uv] at hcur
  repeat (first|refine Af ?_|refine Ac ?_|refine Aa rfl ?_|refine Ab rfl ?_|refine Ak ?_|refine Al ?_|refine Ad ?_|refine Ae ?_)
  refine BG 10 hD (ss:= [(2,.one (Ap J cur))]) (bs:= []) ?_ ?_
  ·rw [←hcl]
   exact In
  subst hcur
  refine As (And.intro (Or.inr rfl) ?_)
  exact AX
theorem Ia {j d n J:Nat} {l:List Rat} (hl:l.length=d+1) (hd:d≤n) (hn:n≤40) (hj:j≤J) (hJ:J≤1000000) (hz: ∀e,d+e≤40→ ∀k,k≤d+e→RSz J (BM (cf l) d e k)):
  Cy Tryz.prog Amb 24 [.one (Ap j l),At (n:Nat)] [] [(21,An (nmD J) (tab (n+1) (BM (cf l) d (n-d))))] (.tup [.one (.gl 21 (n+1) 3),At 0]):=by
 have e1:=BI (k:= .i64) (show (IntKind.i64).wrap ((l.length:Int)-1)=(d:Int) by rw [show ((l.length:Int)-1)=(d:Int) by omega];exact IntWalk.i64_in _ (by omega))
 have e2:=AJ (k:= .i64) (decide_eq_false (show ¬(n:Int)<(d:Int) by omega))
 have e3:=DH (k:= .i64) (decide_eq_false (show ¬(n:Int)>40 by omega))
 obtain ⟨R,hR⟩: ∃R,R=tab (n+1) (BM (cf l) d (n-d)):=⟨_,rfl⟩
 rw [←hR]
 have h0:l=tab (d+0+1) (BM (cf l) d 0):=by
  have:=Jf (0:Rat) l
  rw [hl] at this
  exact this.symm
 have hRl:R.length=n+1:=by rw [hR];simp
 have hne':(!(An (nmD J) R).isEmpty)=true:=by
  have:=Cb (f:=nmD J) inferInstance (by decide) (show 0<R.length by omega)
  cases hb:An (nmD J) R with
  | nil=>rw [hb] at this;cases this
  | cons a b=>rfl
 refine CV Tryz.func24 rfl rfl rfl rfl (by
  simp only [List.all_cons,List.all_nil,Bool.and_true,Bool.and_eq_true]
  exact ⟨by simp [inA,inC],Cr _ _,hne'⟩) (by simp [inA,inC]) (by simp) (by simp) ?_
 intro W0 base D μ0 hA hD
 repeat (first|refine Af ?_|refine Ac ?_|refine Aa rfl ?_|refine Ab rfl ?_|refine Ak ?_|refine Al ?_|refine Ad ?_|refine Ae ?_)
 refine AK (fun m σ=> ∃(e:Nat) (cur:List Rat),m=n-(d+e)∧d+e≤n∧cur=tab (d+e+1) (BM (cf l) d e)∧Wk ⟨W0,base,D,24,[],μ0⟩ σ [(0,.one (Ap J cur)),(1,At (n:Nat))] []) (n:=n-d) ⟨0,l,by omega,by omega,h0,?_⟩ ?_
 ·exact AS
 clear h0 e1 e2
 intro m σ hI
 obtain ⟨e,cur,hm,he0,hcur,hw⟩:=hI
 refine A5 hw ?_
 clear hw
 have hcl:cur.length=d+e+1:=by rw [hcur];simp
 by_cases hi:d+e<n
 ·have bi:=Gb (k:= .i64) (decide_eq_true (show (cur.length:Int)≤(n:Int) by omega))
  have hcf: ∀q,q<d+e+1→cf cur q=BM (cf l) d e q:=fun q hq=>by rw [hcur];exact Ff 0 hq
  have L1:=XI (j:=J) (n:=d+e+1) (J:=J) (l:=cur) hcl (by omega) (Zc _) hJ (fun i hi'=>by
   rw [F6 (by omega) hi' hcf]
   exact hz (e+1) (by omega) i (by omega))
  have e5:tab (d+e+1+1) (CY (cf cur) (d+e+1))=tab (d+(e+1)+1) (BM (cf l) d (e+1)):=by
   rw [show d+(e+1)+1=d+e+1+1 by omega]
   exact Ax fun i hi'=>F6 (by omega) (by omega) hcf
  unfold Cs at L1
  rw [e5] at L1
  repeat (first|refine Af ?_|refine Ac ?_|refine Aa rfl ?_|refine Ab rfl ?_|refine Ak ?_|refine Al ?_|refine Ad ?_|refine Ae ?_)
  refine ⟨m-1,by omega,e+1,_,by omega,by omega,rfl,?_⟩
  exact AS
 ·have bi:=Gb (k:= .i64) (decide_eq_false (show ¬(cur.length:Int)≤(n:Int) by omega))
  have he:cur=R:=by rw [hcur,hR,show d+e+1=n+1 by omega,show n-d=e by omega]
  subst he
  repeat (first|refine Af ?_|refine Ac ?_|refine Aa rfl ?_|refine Ab rfl ?_|refine Ak ?_|refine Al ?_|refine Ad ?_|refine Ae ?_)
  refine Et 2 (by simp only [List.take_succ_cons,List.take_zero,List.drop_succ_cons,List.drop_zero];exact ⟨rfl,rfl⟩) (by kernel_rfl) ?_
  refine G3 (hl:=?_)
  refine AZ (hl:=?_)
  apply Ai.nil
  refine Iw (la:=([]:List Rat)) (f:=nmD J) (k:=21) (ss:= []) (bs:= []) (ns:=An (nmD J) cur) (hns:=Rk inferInstance _ cur) hD ?_ ?_ ?_
  ·exact ⟨by simp;omega,by simp;omega⟩
  ·exact AS
  repeat (refine FU rfl ?_;refine AC (hl:=?_);apply Ai.nil)
  refine FV ?_
  refine A5 (ss:= [(4,.one (.gl 21 cur.length 3)),(5,At 0)]) (bs:= [(21,An (nmD J) cur)]) ?_ ?_
  ·refine Dr ?_ ?_ rfl
   ·repeat (first|exact Aq|(refine List.forall_mem_cons.2 ⟨?_,?_⟩;focus (first|exact Ent.of_eq rfl|(refine Ent.one' rfl ?_;(first|exact FI|(refine Ag.glLen ?_;simp)|exact EJ))|(refine Ent.agg' rfl ?_;(repeat (first|exact EntL.nil' rfl|(refine EntL.cons' rfl ?_ ?_;focus (first|exact FI|(refine Ag.glLen ?_;simp)|exact EJ))));done))))
   ·repeat (first|exact Aq|(refine List.forall_mem_cons.2 ⟨?_,?_⟩;focus (first|exact AN inferInstance|(exact J8 (la:= []) inferInstance)|(refine BB rfl ?_ rfl;focus ((repeat (first|exact EntL.nil' rfl|(refine EntL.cons' rfl ?_ ?_;focus (first|exact FI|(refine Ag.glLen ?_;simp)|exact EJ))));done)))))
  refine As (And.intro (Or.inr rfl) (PX ?_ (hE:=by exact Ent.tup rfl (EntT.cons (Ent.one' rfl (Ag.glLen (by omega))) rfl rfl (EntT.cons (Ent.of_eq rfl) rfl rfl EntT.nil)))))
  exact List.forall_mem_cons.2 ⟨.inl (AN inferInstance),Aq⟩
theorem Wc {g:FuncId} [hG:Fun Tryz.prog g] {ja i:Nat} {l m:List Rat} {x y z:Rat} {J:Nat} (hx:l[((i:Nat):Int).toNat]?=some x) (hy:m[((i:Nat):Int).toNat]?=some y) (H:Ctr Tryz.prog Amb g [nm ja x,nm ja y] (nm J z)):
  BF Tryz.prog Amb 165 [At (i:Nat),.one (.ptr 901 0),.one (.ptr 902 0),.one (.ptr 903 0)] [(901,[.fn g []],[.fn g []]),(902,[Ap ja l],[Ap ja l]),(903,[Ap ja m],[Ap ja m])] (nm J z):=by
 apply Am Tryz.func165 rfl rfl rfl rfl rfl
 case hin=>simp [inA,inC]
 intro W0 base D μ0 hA hD
 repeat (first|refine Af ?_|refine Ac ?_|refine Aa rfl ?_|refine Ab rfl ?_|refine Ak ?_|refine Al ?_|refine Ad ?_|refine Ae ?_)
 refine As (And.intro (Or.inr rfl) ?_)
 exact PY (hb:=by repeat (first|exact Aq|refine List.forall_mem_cons.2 ⟨⟨rfl,rfl,rfl⟩,?_⟩))
def DZ (op:Rat→Rat→Rat) (f g:Nat→Rat) (d e:Nat) (i:Nat):Rat:=op (BM f d (max d e-d) i) (BM g e (max d e-e) i)
theorem O7 {g:FuncId} [hG:Fun Tryz.prog g] {op:Rat→Rat→Rat} {j d e:Nat} {p q:List Rat} (hp:p.length=d+1) (hq:q.length=e+1) (hd:d≤40) (he:e≤40) (hj:j≤10000) (hr: ∀r∈p,RSz j r) (hr2: ∀r∈q,RSz j r)
  (H: ∀x y,Ctr Tryz.prog Amb g [nm 5000000 x,nm 5000000 y] (nm (5000000+5000000+3) (op x y))):
  Ctr Tryz.prog Amb 133 [.one (Ap j p),.one (Ap j q),.one (.fn g [])] (.one (Cs (5000000+5000000+3) (max d e+1) (DZ op (cf p) (cf q) d e))):=by
 obtain ⟨N,hN⟩: ∃N,N=max d e:=⟨_,rfl⟩
 obtain ⟨KK,hKK⟩: ∃KK,KK=5000000:=⟨_,rfl⟩
 obtain ⟨P,hP⟩: ∃P,P=tab (N+1) (BM (cf p) d (N-d)):=⟨_,rfl⟩
 obtain ⟨Q,hQ⟩: ∃Q,Q=tab (N+1) (BM (cf q) e (N-e)):=⟨_,rfl⟩
 have hPl:P.length=N+1:=by rw [hP];simp
 have hQl:Q.length=N+1:=by rw [hQ];simp
 have hpP:N=d→p=P:=fun h=>by
  subst h
  rw [hP,Nat.sub_self]
  have:=Jf (0:Rat) p
  rw [hp] at this
  exact this.symm
 have hqQ:N=e→q=Q:=fun h=>by
  subst h
  rw [hQ,Nat.sub_self]
  have:=Jf (0:Rat) q
  rw [hq] at this
  exact this.symm
 have B1:=YU (g:=165) (n:=N) (J:=KK+KK+3) (h:=DZ op (cf p) (cf q) d e) (c0:= .fn g []) (c1:=Ap KK P) (c2:=Ap KK Q) rfl rfl rfl rfl rfl rfl (k1:=5) (k2:=3) (k3:=4) (by omega) (fun i hi=>by
  have h1:P[((i:Nat):Int).toNat]?=some (BM (cf p) d (max d e-d) i):=by rw [hP,hN];exact A8 (by omega)
  have h2:Q[((i:Nat):Int).toNat]?=some (BM (cf q) e (max d e-e) i):=by rw [hQ,hN];exact A8 (by omega)
  exact Wc h1 h2 (by rw [hKK];exact H _ _)) (by decide)
 have E1:d<e→Ctr Tryz.prog Amb 55 [.one (Ap j p),At (e:Nat)] (.tup [.one (Ap KK P),At 0]):=fun h=>by
  have:=Kv (j:=j) (d:=d) (n:=e) (p:=p) hp (by omega) he hj hr
  have hNe:N=e:=by omega
  rw [hP,hNe,hKK]
  exact this
 have E2:e<d→Ctr Tryz.prog Amb 55 [.one (Ap j q),At (d:Nat)] (.tup [.one (Ap KK Q),At 0]):=fun h=>by
  have:=Kv (j:=j) (d:=e) (n:=d) (p:=q) hq (by omega) hd hj hr2
  have hNe:N=d:=by omega
  rw [hQ,hNe,hKK]
  exact this
 have hKj:j≤KK:=by omega
 rw [←hN,←hKK]
 unfold Cs at B1⊢
 obtain ⟨R,hR⟩: ∃R,R=tab (N+1) (DZ op (cf p) (cf q) d e):=⟨_,rfl⟩
 rw [←hR] at B1⊢
 have w1:=BI (k:= .i64) (show (IntKind.i64).wrap ((p.length:Int)-1)=(d:Int) by rw [show ((p.length:Int)-1)=(d:Int) by omega];exact IntWalk.i64_in _ (by omega))
 have w2:=BI (k:= .i64) (show (IntKind.i64).wrap ((q.length:Int)-1)=(e:Int) by rw [show ((q.length:Int)-1)=(e:Int) by omega];exact IntWalk.i64_in _ (by omega))
 have w3:=BI (k:= .i64) (show (IntKind.i64).wrap ((P.length:Int)-1)=(N:Int) by rw [show ((P.length:Int)-1)=(N:Int) by omega];exact IntWalk.i64_in _ (by omega))
 have w4:=EM (k:= .i64) (decide_eq_false (show ¬(P.length:Int)≠(Q.length:Int) by omega))
 clear hR hP hQ H hKK hr hr2
 rcases Nat.lt_trichotomy d e with hde|hde|hde
 ·have L1:=AJ (k:= .i64) (decide_eq_true (show (p.length:Int)<(q.length:Int) by omega))
  have X1:=E1 hde
  have hqQ:=hqQ (by omega)
  clear E1 E2 hpP
  subst hqQ
  have w5:=EM (k:= .i64) (decide_eq_false (show ¬(P.length:Int)≠(q.length:Int) by omega))
  refine Am Tryz.func133 rfl rfl rfl rfl rfl rfl ?_
  intro W0 base D μ0 hA hD
  repeat (first|refine Af ?_|refine Ac ?_|refine Aa rfl ?_|refine Ab rfl ?_|refine Ak ?_|refine Al ?_|refine Ad ?_|refine Ae ?_)
  refine A5 (ss:= [(3,.one (.ptr 3 0)),(4,.one (.ptr 4 0)),(5,.one (.ptr 5 0))]) (bs:= [(3,[Ap KK P]),(4,[Ap KK q]),(5,[.fn g []])]) ?_ ?_
  ·exact AS
  repeat (first|refine Af ?_|refine Ac ?_|refine Aa rfl ?_|refine Ab rfl ?_|refine Ak ?_|refine Al ?_|refine Ad ?_|refine Ae ?_)
  refine As (And.intro (Or.inr rfl) ?_)
  exact AX
 ·have L1:=AJ (k:= .i64) (decide_eq_false (show ¬(p.length:Int)<(q.length:Int) by omega))
  have L2:=DH (k:= .i64) (decide_eq_false (show ¬(p.length:Int)>(q.length:Int) by omega))
  have w5:=EM (k:= .i64) (decide_eq_false (show ¬(p.length:Int)≠(q.length:Int) by omega))
  have hqQ:=hqQ (by omega)
  have hpP:=hpP (by omega)
  clear E1 E2
  subst hqQ
  subst hpP
  refine Am Tryz.func133 rfl rfl rfl rfl rfl rfl ?_
  intro W0 base D μ0 hA hD
  repeat (first|refine Af ?_|refine Ac ?_|refine Aa rfl ?_|refine Ab rfl ?_|refine Ak ?_|refine Al ?_|refine Ad ?_|refine Ae ?_)
  refine A5 (ss:= [(3,.one (.ptr 3 0)),(4,.one (.ptr 4 0)),(5,.one (.ptr 5 0))]) (bs:= [(3,[Ap KK p]),(4,[Ap KK q]),(5,[.fn g []])]) ?_ ?_
  ·exact AS
  repeat (first|refine Af ?_|refine Ac ?_|refine Aa rfl ?_|refine Ab rfl ?_|refine Ak ?_|refine Al ?_|refine Ad ?_|refine Ae ?_)
  refine As (And.intro (Or.inr rfl) ?_)
  exact AX
 ·have L1:=AJ (k:= .i64) (decide_eq_false (show ¬(p.length:Int)<(q.length:Int) by omega))
  have L2:=DH (k:= .i64) (decide_eq_true (show (p.length:Int)>(q.length:Int) by omega))
  have X1:=E2 hde
  have hpP:=hpP (by omega)
  clear E1 E2 hqQ
  subst hpP
  have w5:=EM (k:= .i64) (decide_eq_false (show ¬(p.length:Int)≠(Q.length:Int) by omega))
  refine Am Tryz.func133 rfl rfl rfl rfl rfl rfl ?_
  intro W0 base D μ0 hA hD
  have hdN:d=N:=by omega
  rw [hdN] at X1
  clear w1
  repeat (first|refine Af ?_|refine Ac ?_|refine Aa rfl ?_|refine Ab rfl ?_|refine Ak ?_|refine Al ?_|refine Ad ?_|refine Ae ?_)
  refine A5 (ss:= [(3,.one (.ptr 3 0)),(4,.one (.ptr 4 0)),(5,.one (.ptr 5 0))]) (bs:= [(3,[Ap KK p]),(4,[Ap KK Q]),(5,[.fn g []])]) ?_ ?_
  ·exact AS
  repeat (first|refine Af ?_|refine Ac ?_|refine Aa rfl ?_|refine Ab rfl ?_|refine Ak ?_|refine Al ?_|refine Ad ?_|refine Ae ?_)
  refine As (And.intro (Or.inr rfl) ?_)
  exact AX
theorem XR {j d e:Nat} {p q:List Rat} (hp:p.length=d+1) (hq:q.length=e+1) (hd:d≤40) (he:e≤40) (hj:j≤10000) (hr: ∀r∈p,RSz j r) (hr2: ∀r∈q,RSz j r):
  Ctr Tryz.prog Amb 111 [.one (Ap j p),.one (Ap j q)] (.one (Cs (5000000+5000000+3) (max d e+1) (DZ (· - ·) (cf p) (cf q) d e))):=by
 have P1:=O7 (g:=88) (op:=(· - ·)) hp hq hd he hj hr hr2 (fun x y=>Vi (by omega) (by omega))
 refine Am Tryz.func111 rfl rfl rfl rfl rfl rfl ?_
 intro W0 base D μ0 hA hD
 repeat (first|refine Af ?_|refine Ac ?_|refine Aa rfl ?_|refine Ab rfl ?_|refine Ak ?_|refine Al ?_|refine Ad ?_|refine Ae ?_)
 refine As (And.intro (Or.inr rfl) ?_)
 exact AX
end Go.Proofs.YtnkobfcnflphkaaGreatDoor
