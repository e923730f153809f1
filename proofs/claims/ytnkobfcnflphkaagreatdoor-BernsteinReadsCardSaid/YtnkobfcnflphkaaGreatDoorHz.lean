/-
  Several texts in one: Zm, Zn, Zp, Zq, Zx, Zy.
-/
import Derived.Test.YtnkobfcnflphkaaGreatDoorBj
import Derived.Test.YtnkobfcnflphkaaGreatDoorGr
namespace Go.Proofs.YtnkobfcnflphkaaGreatDoor
open List renaming getElem?_eq_getElem→Zd
open Nat renaming le_refl→Zc
set_option linter.unusedVariables false
set_option linter.unusedSimpArgs false
def tab {α:Type} (m:Nat) (g:Nat→α):List α:=(List.range m).map g
section
variable {α β:Type} {m i q:Nat} {g h:Nat→α} {x:α}
@[simp] theorem Ef:(tab m g).length=m:=by unfold tab;simp
theorem tab_get?:(tab m g)[q]?=if q<m then some (g q) else none:=by
 unfold tab
 rw [List.getElem?_map]
 by_cases h:q<m
 ·rw [if_pos h,List.getElem?_range h];rfl
 ·rw [if_neg h,List.getElem?_eq_none (by simpa using h)];rfl
theorem Dm (hq:q<m):(tab m g)[q]?=some (g q):=by rw [tab_get?,if_pos hq]
theorem A8 (hq:q<m):(tab m g)[((q:Nat):Int).toNat]?=some (g q):=by rw [Int.toNat_natCast];exact Dm hq
theorem GD {l:List α} (hl:l.length=m) (h: ∀q,q<m→l[q]?=some (g q)):l=tab m g:=by
 refine List.ext_getElem? fun q=>?_
 rw [tab_get?]
 by_cases hq:q<m
 ·rw [if_pos hq,h q hq]
 ·rw [if_neg hq,List.getElem?_eq_none (by omega)]
theorem Ax (he: ∀q,q<m→g q=h q):tab m g=tab m h:=GD Ef fun q hq=>by rw [Dm hq,he q hq]
theorem Cm (hi:i<m) (h1:h i=x) (h2: ∀q,q<m→q≠i→h q=g q):(tab m g).set i x=tab m h:=GD (by simp) fun q hq=>by
 by_cases hqi:q=i
 ·subst hqi
  rw [List.getElem?_set_self (by simpa using hq),h1]
 ·rw [List.getElem?_set_ne (Ne.symm hqi),Dm hq,h2 q hq hqi]
theorem G8:tab m g++ [g m]=tab (m+1) g:=by unfold tab;rw [List.range_succ,List.map_append];rfl
theorem Jf (d:α) (l:List α):tab l.length (fun i=>l.getD i d)=l:=(GD rfl fun q hq=>by
 rw [List.getD_eq_getElem?_getD,Zd hq];rfl).symm
theorem VU (f:α→β):(tab m g).map f=tab m fun i=>f (g i):=by unfold tab;rw [List.map_map];rfl
theorem Ww (f:α→β) (d:α) (l:List α):l.map f=tab l.length fun i=>f (l.getD i d):=by
 have:=congrArg (List.map f) (Jf d l)
 rw [VU] at this
 exact this.symm
theorem Ee:List.replicate m x=tab m fun _=>x:=GD (by simp) fun q hq=>by rw [List.getElem?_replicate,if_pos hq]
theorem Ff (d:α) (hq:q<m):(tab m g).getD q d=g q:=by rw [List.getD_eq_getElem?_getD,Dm hq];rfl
theorem Tj {k:Nat} (hk:k≤m):(tab m g).take k=tab k g:=GD (by simp;omega) fun q hq=>by rw [List.getElem?_take,if_pos hq,Dm (by omega)]
end
def BO (u d:Rat) (f:Nat→Rat):Nat→Nat→Rat
 | 0,i=>f i
 | k+1,i=>d*BO u d f k i+u*BO u d f k (i+1)
def GU (u d:Rat) (f:Nat→Rat) (n s i:Nat) (q:Nat):Rat:=if q<i then BO u d f (s+1) q else if q+s≤n then BO u d f s q else BO u d f (n-q) q
section
variable {u d z s:Rat} {f g:Nat→Rat} {n k i q t:Nat}
theorem Qc:tab (n+1) (GU u d f n 0 0)=tab (n+1) f:=Ax fun q hq=>by unfold GU;rw [if_neg (by omega),if_pos (by omega)];rfl
theorem SR (h:k<n):tab (n+1) (GU u d f n k (n-k))=tab (n+1) (GU u d f n (k+1) 0):=Ax fun q hq=>by
 unfold GU
 rw [if_neg (Nat.not_lt_zero q)]
 by_cases h1:q<n-k
 ·rw [if_pos h1,if_pos (by omega)]
 ·rw [if_neg h1]
  by_cases h2:q+k≤n
  ·rw [if_pos h2,if_neg (by omega),show n-q=k by omega]
  ·rw [if_neg h2,if_neg (by omega)]
theorem Vg:tab (n+1) (GU u d f n n 0)=tab (n+1) fun q=>BO u d f (n-q) q:=Ax fun q hq=>by
 unfold GU
 rw [if_neg (Nat.not_lt_zero q)]
 by_cases h2:q+n≤n
 ·rw [if_pos h2]
  have:q=0:=by omega
  subst this
  rfl
 ·rw [if_neg h2]
theorem Vf (h:i+k<n) (hx:s=d*BO u d f k i+u*BO u d f k (i+1)):(tab (n+1) (GU u d f n k i)).set i s=tab (n+1) (GU u d f n k (i+1)):=
 Cm (by omega) (by unfold GU;rw [if_pos (by omega),hx];rfl) fun q hq hqi=>by
  unfold GU
  by_cases h1:q<i
  ·rw [if_pos h1,if_pos (by omega)]
  ·rw [if_neg h1,if_neg (by omega)]
theorem Mt (h:q+k≤n) (hi:i≤q):GU u d f n k i q=BO u d f k q:=by
 unfold GU
 rw [if_neg (by omega),if_pos h]
theorem FK (u d s z:Rat) (f:Nat→Rat): ∀(k i:Nat),BO (u*z) (d*z) (fun i=>s*f i) k i=s*z^k*BO u d f k i
 | 0,i=>by show s*f i=s*z^0*f i;rw [Rat.pow_zero,Rat.mul_one]
 | k+1,i=>by
   show d*z*BO (u*z) (d*z) _ k i+u*z*BO (u*z) (d*z) _ k (i+1)=s*z^(k+1)*(d*BO u d f k i+u*BO u d f k (i+1))
   rw [FK u d s z f k i,FK u d s z f k (i+1),Rat.pow_succ]
   grind
end
theorem Gn (x:Rat):x*((x.den:Int):Rat)=((x.num:Int):Rat):=by
 have h0:((x.den:Int):Rat)≠0:=by
  intro h
  have:x.den=0:=by exact_mod_cast h
  exact x.den_nz this
 have h:=Rat.mkRat_self x
 rw [Rat.mkRat_eq_div] at h
 rw [←Rat.intCast_natCast] at h
 generalize ((x.den:Int):Rat)=d at*
 generalize ((x.num:Int):Rat)=m at*
 rw [←h]
 grind
theorem Sz.pow {a E:Nat} (h:Sz a E): ∀k:Nat,Sz (k*a+1) (E^k)
 | 0=>by rw [Nat.pow_zero];exact Aj _ _ (by rw [Nat.zero_mul,Nat.zero_add];decide)
 | k+1=>by
   rw [Nat.pow_succ]
   exact (Sz.mul (Sz.pow h k) h).mono (by rw [Nat.succ_mul];omega)
def IB (D B:Nat) (x:Rat):Prop:= ∃k:Int,x*((D:Int):Rat)=(k:Rat)∧k.natAbs≤B
theorem IB.rsz {D B J:Nat} {x:Rat} (h:IB D B x) (hD:0<D) (h1:Sz J D) (h2:Sz J B):RSz J x:=by
 obtain ⟨k,hk,hb⟩:=h
 have h0:((D:Int):Rat)≠0:=by
  intro h
  have:(D:Int)=0:=by exact_mod_cast h
  omega
 have e:x=mkRat k D:=by
  rw [Rat.mkRat_eq_div,←hk,Rat.intCast_natCast]
  rw [Rat.intCast_natCast] at h0
  grind
 rw [e]
 exact RSz.of_mkRat (h2.le hb) h1 (by omega)
theorem IB.mono {D B B':Nat} {x:Rat} (h:IB D B x) (hb:B≤B'):IB D B' x:=by
 obtain ⟨k,h1,h2⟩:=h
 exact ⟨k,h1,Nat.le_trans h2 hb⟩
theorem NM (a b c d:Int):(a*b+c*d).natAbs≤a.natAbs*b.natAbs+c.natAbs*d.natAbs:=by
 rw [←Int.natAbs_mul,←Int.natAbs_mul]
 exact Int.natAbs_add_le _ _
theorem Ms {u d:Rat} {f:Nat→Rat} {D B E U V n:Nat} (hf: ∀i,i≤n→IB D B (f i)) (hu:IB E U u) (hd:IB E V d): ∀(k i:Nat),k+i≤n→IB (D*E^k) (B*(U+V)^k) (BO u d f k i)
 | 0,i,h=>by rw [Nat.pow_zero,Nat.pow_zero,Nat.mul_one,Nat.mul_one];exact hf i (by omega)
 | k+1,i,h=>by
   obtain ⟨a,ha,hab⟩:=Ms hf hu hd k i (by omega)
   obtain ⟨b,hb,hbb⟩:=Ms hf hu hd k (i+1) (by omega)
   obtain ⟨p,hp,hpb⟩:=hu
   obtain ⟨q,hq,hqb⟩:=hd
   refine ⟨q*a+p*b,?_,?_⟩
   ·have e:((D*E^(k+1):Nat):Int)=(D*E^k:Nat)*(E:Nat):=by rw [Nat.pow_succ,←Nat.mul_assoc,Int.natCast_mul]
    show (d*BO u d f k i+u*BO u d f k (i+1))*(((D*E^(k+1):Nat):Int):Rat)=_
    rw [e,Rat.intCast_mul,Rat.intCast_add,Rat.intCast_mul,Rat.intCast_mul,←ha,←hb,←hp,←hq]
    grind
   ·refine Nat.le_trans (NM _ _ _ _) ?_
    have h1:=Nat.mul_le_mul hqb hab
    have h2:=Nat.mul_le_mul hpb hbb
    rw [Nat.pow_succ]
    have:B*((U+V)^k*(U+V))=V*(B*(U+V)^k)+U*(B*(U+V)^k):=by
     rw [←Nat.mul_assoc,Nat.mul_add,Nat.mul_comm V,Nat.mul_comm U,Nat.add_comm]
    omega
def A0 (x:Rat):Rat:=((x.den:Int):Rat)
theorem JW (x:Rat):0<A0 x:=by
 unfold A0
 have h:(0:Int)<(x.den:Int):=by have:=x.den_pos;omega
 have:=Rat.intCast_lt_intCast.2 h
 simpa using this
def whS:Rat→List Rat→Rat
 | s,[]=>s
 | s,r::l=>whS (s*A0 (s*r)) l
theorem WL {x:Rat} {k:Nat} {z:Int} (hk:0<k) (h:x*((k:Int):Rat)=(z:Rat)):x.den∣k:=by
 have h0:((x.den:Int):Rat)≠0:=by have:=JW x;unfold A0 at this;grind
 have h1:x*((x.den:Int):Rat)=((x.num:Int):Rat):=Gn _
 have h2:((x.num*k:Int):Rat)=((z*x.den:Int):Rat):=by
  rw [Rat.intCast_mul,Rat.intCast_mul,←h1,←h]
  grind
 have h3:x.num*k=z*x.den:=Rat.intCast_inj.1 h2
 have h4:x.den∣x.num.natAbs*k:=by
  refine ⟨z.natAbs,?_⟩
  have:=congrArg Int.natAbs h3
  rw [Int.natAbs_mul,Int.natAbs_mul] at this
  simpa [Nat.mul_comm] using this
 exact (Nat.Coprime.symm x.reduced).dvd_of_dvd_mul_left h4
theorem IH (m:Nat) (r:Rat):(((m:Int):Rat)*r).den∣r.den:=by
 have h1:r*((r.den:Int):Rat)=((r.num:Int):Rat):=Gn _
 refine WL r.den_pos (z:=m*r.num) ?_
 rw [Rat.intCast_mul,←h1]
 grind
theorem QH {a m:Nat} (h:Sz a m) (h1:1≤a):RSz a ((m:Int):Rat):=by
 have e:((m:Int):Rat)=mkRat m 1:=by rw [Rat.mkRat_one]
 rw [e]
 exact RSz.of_mkRat (by simpa using h) (Aj _ _ (by
  have:(4294967296:Nat)^a≥4294967296^1:=Nat.pow_le_pow_right (by decide) h1
  omega)) (by decide)
theorem S4 {m a j:Nat} {r:Rat} (hm:0<m) (ha:Sz a m) (hr:RSz j r): ∃n:Nat,0<n∧((m:Int):Rat)*A0 (((m:Int):Rat)*r)=((n:Int):Rat)∧Sz (a+j) n:=by
 have hd:=IH m r
 refine ⟨m*(((m:Int):Rat)*r).den,Nat.mul_pos hm (Rat.den_pos _),?_,ha.mul (hr.2.le (Nat.le_of_dvd r.den_pos hd))⟩
 unfold A0
 rw [Int.natCast_mul,Rat.intCast_mul]
theorem Dy {j:Nat} : ∀(l:List Rat) (m a:Nat),0<m→Sz a m→(∀r∈l,RSz j r)→ ∃M:Nat,0<M∧m∣M∧whS ((m:Int):Rat) l=((M:Int):Rat)∧Sz (a+l.length*j) M∧ ∀r∈l,∃z:Int,((M:Int):Rat)*r=(z:Rat)
 | [],m,a,hm,ha,_=>⟨m,hm,Nat.dvd_refl _,rfl,by simpa using ha,fun r hr=>by cases hr⟩
 | r::l,m,a,hm,ha,hj=>by
   have hd:=IH m r
   obtain ⟨e,he⟩: ∃e,e=(((m:Int):Rat)*r).den:=⟨_,rfl⟩
   have hep:0<e:=by rw [he];exact Rat.den_pos _
   have hes:Sz j e:=(hj r List.mem_cons_self).2.le (Nat.le_of_dvd r.den_pos (he▸hd))
   obtain ⟨M,h1,h2,h3,h4,h5⟩:=Dy (j:=j) l (m*e) (a+j) (Nat.mul_pos hm hep) (ha.mul hes) fun r hr=>hj r (List.mem_cons_of_mem _ hr)
   have e1:((m:Int):Rat)*A0 (((m:Int):Rat)*r)=(((m*e:Nat):Int):Rat):=by
    unfold A0
    rw [←he,Int.natCast_mul,Rat.intCast_mul]
   refine ⟨M,h1,Nat.dvd_trans (Nat.dvd_mul_right m e) h2,?_,h4.mono (by rw [List.length_cons,Nat.succ_mul];omega),fun x hx=>?_⟩
   ·show whS (((m:Int):Rat)*A0 (((m:Int):Rat)*r)) l=_
    rw [e1];exact h3
   ·rcases List.mem_cons.1 hx with rfl|hx
    ·obtain ⟨c,hc⟩:=h2
     have h6:((m:Int):Rat)*x*((e:Int):Rat)=(((((m:Int):Rat)*x).num:Int):Rat):=by rw [he];exact Gn _
     refine ⟨c*(((m:Int):Rat)*x).num,?_⟩
     rw [hc,Rat.intCast_mul,←h6,Int.natCast_mul,Int.natCast_mul,Rat.intCast_mul,Rat.intCast_mul]
     grind
    ·exact h5 x hx
def bin:Nat→Nat→Nat
 | _,0=>1
 | 0,_+1=>0
 | n+1,k+1=>bin n k+bin n (k+1)
theorem CJ (n:Nat):bin n 0=1:=by cases n<;>rfl
theorem Dk: ∀ {n k:Nat},n<k→bin n k=0
 | 0,k+1,_=>rfl
 | n+1,k+1,h=>by show bin n k+bin n (k+1)=0;rw [Dk (by omega),Dk (by omega)]
theorem HJ: ∀n:Nat,bin n n=1
 | 0=>rfl
 | n+1=>by show bin n n+bin n (n+1)=1;rw [HJ n,Dk (by omega)]
theorem Rl: ∀ {n k:Nat},k≤n→0<bin n k
 | n,0,_=>by rw [CJ];exact Nat.zero_lt_one
 | n+1,k+1,h=>by show 0<bin n k+bin n (k+1);have:=Rl (n:=n) (k:=k) (by omega);omega
theorem Qh: ∀n k:Nat,bin n k≤2^n
 | n,0=>by rw [CJ];exact Nat.one_le_two_pow
 | 0,k+1=>by show 0≤_;exact Nat.zero_le _
 | n+1,k+1=>by
   show bin n k+bin n (k+1)≤_
   have h1:=Qh n k
   have h2:=Qh n (k+1)
   rw [Nat.pow_succ];omega
theorem Fu: ∀ {n k:Nat},k≤n→bin n (k+1)*(k+1)=bin n k*(n-k)
 | 0,k,h=>by
   have:k=0:=by omega
   subst this
   rfl
 | n+1,0,_=>by
   show (bin n 0+bin n (0+1))*(0+1)=bin (n+1) 0*(n+1-0)
   have h1:=Fu (n:=n) (k:=0) (Nat.zero_le _)
   simp only [CJ] at*
   omega
 | n+1,k+1,h=>by
   show (bin n (k+1)+bin n (k+1+1))*(k+1+1)=(bin n k+bin n (k+1))*(n+1-(k+1))
   have h1:=Fu (n:=n) (k:=k) (by omega)
   rw [show n+1-(k+1)=n-k by omega,Nat.add_mul,Nat.add_mul,←h1]
   by_cases h0:k=n
   ·subst h0
    rw [Dk (show k<k+1 by omega),Dk (show k<k+1+1 by omega)];simp
   ·have h2:=Fu (n:=n) (k:=k+1) (by omega)
    rw [h2,←Nat.mul_add,←Nat.mul_add]
    congr 1
    omega
def chR (n:Int):Nat→Rat
 | 0=>((1:Int):Rat)
 | k+1=>chR n k*(((n-(k:Nat):Int):Rat)/((((k:Nat):Int)+1:Int):Rat))
abbrev AF (n k:Nat):Rat:=((bin n k:Int):Rat)
theorem Mr (n:Nat): ∀k:Nat,k≤n→chR (n:Nat) k=AF n k
 | 0,_=>by show ((1:Int):Rat)=((bin n 0:Int):Rat);rw [CJ];rfl
 | k+1,h=>by
   show chR (n:Nat) k*_=_
   rw [Mr n k (by omega)]
   have h1:=Fu (n:=n) (k:=k) (by omega)
   have h2:((bin n (k+1):Int):Rat)*((((k:Nat):Int)+1:Int):Rat)=((bin n k:Int):Rat)*(((n:Nat)-(k:Nat):Int):Rat):=by
    rw [←Rat.intCast_mul,←Rat.intCast_mul]
    congr 1
    have h3:((bin n (k+1)*(k+1):Nat):Int)=((bin n k*(n-k):Nat):Int):=by rw [h1]
    rw [Int.natCast_mul,Int.natCast_mul,show ((n-k:Nat):Int)=(n:Int)-(k:Int) by omega] at h3
    exact h3
   have h0:((((k:Nat):Int)+1:Int):Rat)≠0:=by
    intro h
    have:(((k:Nat):Int)+1:Int)=0:=by exact_mod_cast h
    omega
   unfold AF
   generalize ((bin n (k+1):Int):Rat)=x at*
   generalize ((bin n k:Int):Rat)=y at*
   generalize ((((k:Nat):Int)+1:Int):Rat)=z at*
   generalize (((n:Nat)-(k:Nat):Int):Rat)=w at*
   have e:y*(w/z)=y*w/z:=by grind
   rw [e,←h2]
   grind
theorem Ek {n k:Nat} (h:k≤n):AF n k≠0:=by
 intro h0
 have h1:((bin n k:Int):Rat)=((0:Int):Rat):=h0
 have:=Rat.intCast_inj.1 h1
 have:=Rl h
 omega
def Cq (a b:Nat→Rat) (n:Nat):Nat→Nat→Rat
 | 0,_=>0
 | i+1,k=>Cq a b n i k+(if i≤k∧k≤i+n then a i*b (k-i) else 0)
def Dj (a b:Nat→Rat) (n i j:Nat) (k:Nat):Rat:=Cq a b n i k+(if i≤k∧k<i+j then a i*b (k-i) else 0)
section
variable {a b:Nat→Rat} {m n i j k N:Nat}
theorem Oo:tab N (Dj a b n i 0)=tab N (Cq a b n i):=Ax fun k _=>by
 unfold Dj
 rw [if_neg (by omega)]
 exact Rat.add_zero _
theorem SO:tab N (Dj a b n i (n+1))=tab N (Cq a b n (i+1)):=Ax fun k _=>by
 unfold Dj
 show _=Cq a b n i k+_
 by_cases h:i≤k∧k≤i+n
 ·rw [if_pos h,if_pos ⟨h.1,by omega⟩]
 ·rw [if_neg h,if_neg (fun hh=>h ⟨hh.1,by omega⟩)]
theorem Oq:Dj a b n i j (i+j)=Cq a b n i (i+j):=by
 unfold Dj
 rw [if_neg (by omega)]
 exact Rat.add_zero _
theorem SN {x:Rat} (h:i+j<N) (hx:x=Dj a b n i j (i+j)+a i*b j):(tab N (Dj a b n i j)).set (i+j) x=tab N (Dj a b n i (j+1)):=
 Cm h (by
  rw [hx,Oq]
  unfold Dj
  rw [if_pos ⟨by omega,by omega⟩,show i+j-i=j by omega]) fun q hq hqi=>by
  unfold Dj
  congr 1
  by_cases h:i≤q∧q<i+j
  ·rw [if_pos h,if_pos ⟨h.1,by omega⟩]
  ·rw [if_neg h,if_neg (fun hh=>h ⟨hh.1,by omega⟩)]
theorem IK (s t:Rat): ∀(i k:Nat),Cq (fun i=>s*a i) (fun i=>t*b i) n i k=s*t*Cq a b n i k
 | 0,k=>by show (0:Rat)=s*t*0;grind
 | i+1,k=>by
   show Cq _ _ n i k+_=s*t*(Cq a b n i k+_)
   rw [IK s t i k]
   split<;>grind
theorem Ga {a' b':Nat→Rat} : ∀ {i k:Nat},(∀q,q<i→a q=a' q)→(∀q,q≤n→b q=b' q)→Cq a b n i k=Cq a' b' n i k
 | 0,_,_,_=>rfl
 | i+1,k,h1,h2=>by
   show Cq a b n i k+_=Cq a' b' n i k+_
   rw [Ga (i:=i) (fun q hq=>h1 q (by omega)) h2]
   congr 1
   by_cases h:i≤k∧k≤i+n
   ·rw [if_pos h,if_pos h,h1 i (by omega),h2 (k-i) (by omega)]
   ·rw [if_neg h,if_neg h]
end
def CF (f:Nat→Rat):Nat→Nat→Rat
 | 0,i=>f i
 | k+1,i=>CF f k (i+1)-CF f k i
theorem GT (s:Rat) (f:Nat→Rat): ∀(k i:Nat),CF (fun i=>s*f i) k i=s*CF f k i
 | 0,_=>rfl
 | k+1,i=>by
   show CF _ k (i+1)-CF _ k i=s*(CF f k (i+1)-CF f k i)
   rw [GT s f k,GT s f k]
   grind
def Dp (f:Nat→Rat):Nat→Nat→Rat
 | m,0=>f m
 | m,d+1=>Dp f m d+Dp f (m+1) d
theorem GG (s:Rat) (f:Nat→Rat): ∀(d m:Nat),Dp (fun i=>s*f i) m d=s*Dp f m d
 | 0,_=>rfl
 | d+1,m=>by
   show Dp _ m d+Dp _ (m+1) d=s*(Dp f m d+Dp f (m+1) d)
   rw [GG s f d,GG s f d]
   grind
def DI (g:Nat→Rat):Nat→Rat
 | 0=>0
 | c+1=>DI g c+g c
theorem GF {g h:Nat→Rat} : ∀ {c:Nat},(∀i,i<c→g i=h i)→DI g c=DI h c
 | 0,_=>rfl
 | c+1,hh=>by show DI g c+g c=DI h c+h c;rw [GF (c:=c) fun i hi=>hh i (by omega),hh c (by omega)]
theorem M8 (g h:Nat→Rat): ∀c:Nat,DI (fun i=>g i+h i) c=DI g c+DI h c
 | 0=>by show (0:Rat)=0+0;grind
 | c+1=>by show DI _ c+(g c+h c)=DI g c+g c+(DI h c+h c);rw [M8 g h c];grind
theorem GE (g:Nat→Rat): ∀c:Nat,DI g (c+1)=g 0+DI (fun i=>g (i+1)) c
 | 0=>by show (0:Rat)+g 0=g 0+0;grind
 | c+1=>by
   show DI g (c+1)+g (c+1)=g 0+(DI (fun i=>g (i+1)) c+g (c+1))
   rw [GE g c];grind
theorem Jk (f:Nat→Rat): ∀(d m:Nat),Dp f m d=DI (fun k=>AF d k*f (m+k)) (d+1)
 | 0,m=>by
   show f m=0+((bin 0 0:Int):Rat)*f (m+0)
   rw [Nat.add_zero]
   have:((bin 0 0:Int):Rat)=1:=rfl
   rw [this];grind
 | d+1,m=>by
   show Dp f m d+Dp f (m+1) d=_
   rw [Jk f d m,Jk f d (m+1)]
   have e1:DI (fun k=>AF d k*f (m+k)) (d+1)=DI (fun k=>AF d k*f (m+k)) (d+1+1):=by
    show _=DI _ (d+1)+AF d (d+1)*_
    have:AF d (d+1)=0:=by unfold AF;rw [Dk (by omega)];rfl
    rw [this];grind
   rw [e1,GE,GE (fun k=>AF (d+1) k*f (m+k))]
   have e2:AF (d+1) 0=AF d 0:=by unfold AF;rw [CJ,CJ]
   rw [e2,Rat.add_assoc]
   congr 1
   rw [←M8]
   refine GF fun i _=>?_
   show AF d (i+1)*f (m+(i+1))+AF d i*f (m+1+i)=AF (d+1) (i+1)*f (m+(i+1))
   have e3:AF (d+1) (i+1)=AF d i+AF d (i+1):=by
    unfold AF
    show ((((bin d i+bin d (i+1):Nat):Nat):Int):Rat)=_
    rw [Int.natCast_add,Rat.intCast_add]
   rw [e3,show m+1+i=m+(i+1) by omega]
   grind
def Sq (t:Rat) (f:Nat→Rat) (i:Nat):Rat:=BO t (1-t) f i 0
def VE (t:Rat) (f:Nat→Rat) (n i:Nat):Rat:=BO t (1-t) f (n-i) i
theorem FC {z:Rat} (h:z≠0): ∀k:Nat,z^k≠0
 | 0=>by rw [Rat.pow_zero];decide
 | k+1=>by
   rw [Rat.pow_succ]
   have:=FC h k
   intro h0
   rcases Rat.mul_eq_zero.1 h0 with h1|h1
   ·exact this h1
   ·exact h h1
theorem Dq {x y:Rat} (h:x≠0) (k:y≠0):x*y≠0:=fun h0=>by
 rcases Rat.mul_eq_zero.1 h0 with h1|h1
 ·exact h h1
 ·exact k h1
theorem Eg {x y:Rat} (h:x≠0):x*y/x=y:=by grind
section
variable {s z t u d:Rat} {f:Nat→Rat} {n i:Nat}
theorem Ri (hs:s≠0) (hz:z≠0) (hu:u=t*z) (hd:d=z-u):BO u d (fun i=>s*f i) i 0/(s*z^i)=Sq t f i:=by
 have e:d=(1-t)*z:=by rw [hd,hu];grind
 rw [e,hu,FK]
 exact Eg (Dq hs (FC hz i))
theorem WT (hs:s≠0) (hz:z≠0) (hu:u=t*z) (hd:d=z-u):BO u d (fun i=>s*f i) (n-i) i/(s*z^(n-i))=VE t f n i:=by
 have e:d=(1-t)*z:=by rw [hd,hu];grind
 rw [e,hu,FK]
 exact Eg (Dq hs (FC hz _))
end
theorem Rm {n k:Nat} (h:k≤n):bin (n+1) (k+1)*(k+1)=bin n k*(n+1):=by
 show (bin n k+bin n (k+1))*(k+1)=_
 rw [Nat.add_mul,Fu h,←Nat.mul_add]
 congr 1
 omega
theorem Vn {n k:Nat} (h:k≤n+1):bin (n+1) k*(n+1-k)=bin n k*(n+1):=by
 rw [←Fu (n:=n+1) (k:=k) h]
 by_cases h0:k≤n
 ·exact Rm h0
 ·obtain rfl:k=n+1:=by omega
  rw [Dk (show n+1<n+1+1 by omega),Dk (show n<n+1 by omega)]
  simp
def CY (f:Nat→Rat) (n i:Nat):Rat:=if i=0 then f 0 else if i=n then f (n-1) else f i+(f (i-1)-f i)*(((i:Int):Rat)/((n:Int):Rat))
theorem Xk {a b c d:Nat} (h:a*b=c*d):((a:Int):Rat)*((b:Int):Rat)=((c:Int):Rat)*((d:Int):Rat):=by
 rw [←Rat.intCast_mul,←Rat.intCast_mul,←Int.natCast_mul,←Int.natCast_mul,h]
theorem FE {n:Nat} (h:0<n):((n:Int):Rat)≠0:=fun h0=>by
 have h1:((n:Int):Rat)=((0:Int):Rat):=h0
 have:=Rat.intCast_inj.1 h1
 omega
theorem N5 (f:Nat→Rat) {N i:Nat} (h:i≤N+1):AF (N+1) i*CY f (N+1) i=(if i≤N then AF N i*f i else 0)+(if 0<i then AF N (i-1)*f (i-1) else 0):=by
 unfold CY
 by_cases h0:i=0
 ·subst h0
  rw [if_pos rfl,if_pos (Nat.zero_le _),if_neg (Nat.lt_irrefl 0)]
  unfold AF
  rw [CJ,CJ,Rat.add_zero]
 ·rw [if_neg h0,if_pos (show 0<i by omega)]
  obtain ⟨k,rfl⟩: ∃k,i=k+1:=⟨i-1,by omega⟩
  simp only [Nat.add_sub_cancel]
  by_cases h1:k+1=N+1
  ·have hk:k=N:=by omega
   subst hk
   rw [if_pos rfl,if_neg (by omega)]
   unfold AF
   rw [HJ,HJ]
   grind
  ·rw [if_neg h1,if_pos (show k+1≤N by omega)]
   have e1:=Xk (Rm (n:=N) (k:=k) (by omega))
   have e2:=Xk (Vn (n:=N) (k:=k+1) (by omega))
   have h2:=FE (n:=N+1) (by omega)
   have e3:((((N+1-(k+1):Nat)):Int):Rat)=(((N+1:Nat):Int):Rat)-(((k+1:Nat):Int):Rat):=by
    rw [←Rat.intCast_sub]
    congr 1
    omega
   rw [e3] at e2
   unfold AF
   generalize (((N+1:Nat):Int):Rat)=n at*
   generalize (((k+1:Nat):Int):Rat)=q at*
   generalize ((bin (N+1) (k+1):Int):Rat)=b at*
   generalize ((bin N k:Int):Rat)=c at*
   generalize ((bin N (k+1):Int):Rat)=d at*
   generalize f (k+1)=x at*
   generalize f k=y at*
   have e4:b*(q/n)=c:=by
    have:b*(q/n)=b*q/n:=by grind
    rw [this,e1];grind
   have e5:b*(1-q/n)=d:=by
    have:b*(1-q/n)=b*(n-q)/n:=by grind
    rw [this,e2];grind
   have:b*(x+(y-x)*(q/n))=b*(1-q/n)*x+b*(q/n)*y:=by grind
   rw [this,e4,e5]
def BM (f:Nat→Rat) (N:Nat):Nat→Nat→Rat
 | 0=>f
 | d+1=>CY (BM f N d) (N+d+1)
def D0 (a:Nat→Rat) (d:Nat):Nat→Nat→Rat
 | 0,_=>0
 | i+1,k=>D0 a d i k+(if i≤k then a i*AF d (k-i) else 0)
theorem Ih (a:Nat→Rat) (d:Nat): ∀i k:Nat,Cq a (AF d) d i k=D0 a d i k
 | 0,_=>rfl
 | i+1,k=>by
   show Cq a (AF d) d i k+_=D0 a d i k+_
   rw [Ih a d i k]
   congr 1
   by_cases h:i≤k
   ·by_cases h2:k≤i+d
    ·rw [if_pos ⟨h,h2⟩,if_pos h]
    ·rw [if_neg (fun hh=>h2 hh.2),if_pos h]
     have:AF d (k-i)=0:=by unfold AF;rw [Dk (by omega)];rfl
     rw [this,Rat.mul_zero]
   ·rw [if_neg (fun hh=>h hh.1),if_neg h]
theorem KI (a:Nat→Rat) (d:Nat): ∀i k:Nat,D0 a (d+1) i k=D0 a d i k+(if 0<k then D0 a d i (k-1) else 0)
 | 0,k=>by show (0:Rat)=0+_;split<;>grind [D0]
 | i+1,k=>by
   show D0 a (d+1) i k+_=D0 a d i k+_+(if 0<k then D0 a d i (k-1)+_ else 0)
   rw [KI a d i k]
   have e:(if i≤k then a i*AF (d+1) (k-i) else 0)=(if i≤k then a i*AF d (k-i) else 0)+(if 0<k then (if i≤k-1 then a i*AF d (k-1-i) else 0) else 0):=by
    by_cases h:i≤k
    ·rw [if_pos h,if_pos h]
     by_cases h2:i=k
     ·subst h2
      rw [Nat.sub_self]
      have:(if 0<i then (if i≤i-1 then a i*AF d (i-1-i) else 0) else 0)=(0:Rat):=by
       by_cases h3:0<i
       ·rw [if_pos h3,if_neg (by omega)]
       ·rw [if_neg h3]
      rw [this,Rat.add_zero]
      unfold AF
      rw [CJ,CJ]
     ·rw [if_pos (show 0<k by omega),if_pos (show i≤k-1 by omega)]
      obtain ⟨q,hq⟩: ∃q,k-i=q+1:=⟨k-i-1,by omega⟩
      rw [hq,show k-1-i=q by omega]
      have:AF (d+1) (q+1)=AF d q+AF d (q+1):=by
       unfold AF
       show ((((bin d q+bin d (q+1):Nat):Nat):Int):Rat)=_
       rw [Int.natCast_add,Rat.intCast_add]
      rw [this];grind
    ·rw [if_neg h,if_neg h]
     have:(if 0<k then (if i≤k-1 then a i*AF d (k-1-i) else 0) else 0)=(0:Rat):=by
      by_cases h3:0<k
      ·rw [if_pos h3,if_neg (by omega)]
      ·rw [if_neg h3]
     rw [this];grind
   rw [e]
   by_cases h3:0<k
   ·simp only [if_pos h3];grind
   ·simp only [if_neg h3];grind
theorem KH (a:Nat→Rat): ∀i k:Nat,D0 a 0 i k=if k<i then a k else 0
 | 0,k=>by rw [if_neg (Nat.not_lt_zero k)];rfl
 | i+1,k=>by
   show D0 a 0 i k+_=_
   rw [KH a i k]
   have b0: ∀q,AF 0 q=if q=0 then 1 else 0:=fun q=>by
    cases q with
    | zero=>rfl
    | succ q=>rfl
   rw [b0]
   by_cases h:k<i
   ·rw [if_pos h,if_neg (show ¬i≤k by omega),if_pos (by omega)];grind
   ·rw [if_neg h]
    by_cases h2:k=i
    ·subst h2
     rw [if_pos (Zc _),Nat.sub_self,if_pos rfl,if_pos (by omega)];grind
    ·rw [if_pos (show i≤k by omega),if_neg (show ¬k-i=0 by omega),if_neg (by omega)];grind
theorem Gu (f:Nat→Rat) (N:Nat): ∀d k:Nat,k≤N+d→AF (N+d) k*BM f N d k=D0 (fun i=>AF N i*f i) d (N+1) k
 | 0,k,h=>by
   rw [KH,if_pos (by omega)]
   rfl
 | d+1,k,h=>by
   show AF (N+d+1) k*CY (BM f N d) (N+d+1) k=_
   rw [N5 _ (by omega),KI]
   congr 1
   ·by_cases h1:k≤N+d
    ·rw [if_pos h1];exact Gu f N d k h1
    ·rw [if_neg h1]
     have key: ∀i k,i+d≤k→D0 (fun i=>AF N i*f i) d i k=0:=by
      intro i
      induction i with
      | zero=>intro k _;rfl
      | succ i ih=>
        intro k hk
        show D0 _ d i k+_=0
        rw [ih k (by omega),if_pos (by omega)]
        have:AF d (k-i)=0:=by unfold AF;rw [Dk (by omega)];rfl
        rw [this];grind
     exact (key (N+1) k (by omega)).symm
   ·by_cases h1:0<k
    ·rw [if_pos h1,if_pos h1];exact Gu f N d (k-1) (by omega)
    ·rw [if_neg h1,if_neg h1]
def dfI (f:Nat→Rat) (o i q:Nat):Rat:=if i<q then CF f (o+1) (q-(o+1)) else if q≤o then CF f q 0 else CF f o (q-o)
section
variable {f g:Nat→Rat} {n o i q:Nat} {x:Rat}
theorem SI:tab (n+1) (dfI f 0 n)=tab (n+1) f:=Ax fun q hq=>by
 unfold dfI
 rw [if_neg (by omega)]
 by_cases h:q≤0
 ·rw [if_pos h,show q=0 by omega];rfl
 ·rw [if_neg h];rfl
theorem U0:tab (n+1) (dfI f o o)=tab (n+1) (dfI f (o+1) n):=Ax fun q hq=>by
 unfold dfI
 rw [if_neg (show ¬n<q by omega)]
 by_cases h:o<q
 ·rw [if_pos h]
  by_cases h2:q≤o+1
  ·rw [if_pos h2,show q=o+1 by omega,Nat.sub_self]
  ·rw [if_neg h2]
 ·rw [if_neg h,if_pos (by omega),if_pos (by omega)]
theorem WJ:tab (n+1) (dfI f n n)=tab (n+1) fun q=>CF f q 0:=Ax fun q hq=>by
 unfold dfI
 rw [if_neg (by omega),if_pos (by omega)]
theorem Yf (h:o<i):dfI f o i i=CF f o (i-o):=by
 unfold dfI
 rw [if_neg (by omega),if_neg (by omega)]
theorem WI (h:o<i):dfI f o i (i-1)=CF f o (i-1-o):=by
 unfold dfI
 rw [if_neg (by omega)]
 by_cases h2:i-1≤o
 ·rw [if_pos h2,show i-1=o by omega,Nat.sub_self]
 ·rw [if_neg h2]
theorem WH (h:o<i) (hi:i≤n) (hx:x=dfI f o i i-dfI f o i (i-1)):(tab (n+1) (dfI f o i)).set i x=tab (n+1) (dfI f o (i-1)):=
 Cm (by omega) (by
  rw [hx,Yf h,WI h]
  unfold dfI
  rw [if_pos (by omega)]
  show CF f o (i-(o+1)+1)-CF f o (i-(o+1))=_
  rw [show i-(o+1)+1=i-o by omega,show i-(o+1)=i-1-o by omega]) fun q hq hqi=>by
  unfold dfI
  by_cases h1:i<q
  ·rw [if_pos h1,if_pos (by omega)]
  ·rw [if_neg h1,if_neg (by omega)]
def smI (f:Nat→Rat) (o i q:Nat):Rat:=if q<o then f q else if q<i then Dp f (o-1) (q-o+1) else Dp f o (q-o)
theorem RO:tab (n+1) (smI f n n)=tab (n+1) f:=Ax fun q hq=>by
 unfold smI
 by_cases h:q<n
 ·rw [if_pos h]
 ·rw [if_neg h,if_neg h,show q=n by omega,Nat.sub_self];rfl
theorem Tr (h:0<o):tab (n+1) (smI f o (n+1))=tab (n+1) (smI f (o-1) (o-1)):=Ax fun q hq=>by
 unfold smI
 by_cases h1:q<o
 ·rw [if_pos h1]
  by_cases h2:q<o-1
  ·rw [if_pos h2]
  ·rw [if_neg h2,if_neg h2,show q=o-1 by omega,Nat.sub_self];rfl
 ·rw [if_neg h1,if_pos hq,if_neg (by omega),if_neg (by omega),show q-(o-1)=q-o+1 by omega]
theorem V3:tab (n+1) (smI f 0 0)=tab (n+1) fun q=>Dp f 0 q:=Ax fun q hq=>by
 unfold smI
 rw [if_neg (by omega),if_neg (by omega)];rfl
theorem V0 (h:0<o) (hoi:o≤i) (hi:i≤n) (hx:x=smI f o i i+smI f o i (i-1)):(tab (n+1) (smI f o i)).set i x=tab (n+1) (smI f o (i+1)):=
 Cm (by omega) (by
  have e1:smI f o i i=Dp f o (i-o):=by unfold smI;rw [if_neg (by omega),if_neg (by omega)]
  have e2:smI f o i (i-1)=Dp f (o-1) (i-o):=by
   unfold smI
   by_cases h1:i-1<o
   ·rw [if_pos h1,show i-1=o-1 by omega,show i-o=0 by omega];rfl
   ·rw [if_neg h1,if_pos (by omega),show i-1-o+1=i-o by omega]
  rw [hx,e1,e2]
  unfold smI
  rw [if_neg (by omega),if_pos (by omega)]
  show Dp f (o-1) (i-o)+Dp f (o-1+1) (i-o)=_
  rw [show o-1+1=o by omega]
  exact Rat.add_comm _ _) fun q hq hqi=>by
  unfold smI
  by_cases h1:q<o
  ·rw [if_pos h1,if_pos h1]
  ·rw [if_neg h1,if_neg h1]
   by_cases h2:q<i
   ·rw [if_pos h2,if_pos (by omega)]
   ·rw [if_neg h2,if_neg (by omega)]
theorem Fz: ∀ {d m:Nat},(∀j,j≤m+d→f j=g j)→Dp f m d=Dp g m d
 | 0,m,h=>h m (by omega)
 | d+1,m,h=>by
   show Dp f m d+Dp f (m+1) d=Dp g m d+Dp g (m+1) d
   rw [Fz (d:=d) (m:=m) fun j hj=>h j (by omega),Fz (d:=d) (m:=m+1) fun j hj=>h j (by omega)]
end
def EP (f:Nat→Rat) (n k:Nat):Rat:=AF n k*CF f k 0
def DC (c:Nat→Rat) (n i:Nat):Rat:=Dp (fun k=>c k/AF n k) 0 i
theorem MU {s:Rat} {f:Nat→Rat} {n k:Nat} (hs:s≠0):CF (fun i=>s*f i) k 0*AF n k/s=EP f n k:=by
 rw [GT]
 unfold EP
 grind
theorem NK {s:Rat} {c:Nat→Rat} {n i:Nat} (hs:s≠0):Dp (fun k=>s*(c k/AF n k)) 0 i/s=DC c n i:=by
 rw [GG]
 unfold DC
 grind
def ofT (c:Nat→Rat) (n i:Nat) (k:Nat):Rat:=AF i k/AF n k*c k
theorem Uj {c:Nat→Rat} {n i:Nat} :DC c n i=DI (ofT c n i) (i+1):=by
 unfold DC
 rw [Jk]
 refine GF fun k hk=>?_
 rw [Nat.zero_add]
 unfold ofT
 grind
theorem Jm (x:Rat):A9 x= -1∨A9 x=0∨A9 x=1:=by
 unfold A9
 split
 ·exact .inr (.inl rfl)
 ·split
  ·exact .inl rfl
  ·exact .inr (.inr rfl)
theorem RS {x:Rat} :A9 x=0↔x=0:=IV
def Gw:Int→List Rat→Nat
 | _,[]=>0
 | s,x::l=>if A9 x=0 then Gw s l else (if A9 x= -s then 1 else 0)+Gw (A9 x) l
abbrev S3 (s:Int):Prop:=s= -1∨s=0∨s=1
section
variable {f:Nat→Rat} {n:Nat} {t:Rat}
end
section
variable {a b:Rat} {e:Int}
theorem VA {x:Rat} {l:List Rat} {s:Int} (h:A9 x≠0):Gw s (x::l)=(if A9 x= -s then 1 else 0)+Gw (A9 x) l:=if_neg h
theorem Xu {x:Rat} {l:List Rat} {s:Int} (h:A9 x=0):Gw s (x::l)=Gw s l:=if_pos h
end
end Go.Proofs.YtnkobfcnflphkaaGreatDoor
