/-
  Several texts in one: Zm, Zn, Zp, Zq, Zx, Zy.
-/
import Derived.Test.YtnkobfcnflphkaaGreatDoorBj
import Derived.Test.YtnkobfcnflphkaaGreatDoorGr
namespace Go.Proofs.YtnkobfcnflphkaaGreatDoor
open List renaming getElem?_eq_getElem→Zk
open Nat renaming le_refl→Zj
set_option linter.unusedVariables false
set_option linter.unusedSimpArgs false
def tab {α:Type} (m:Nat) (g:Nat→α):List α:=(List.range m).map g
section
variable {α β:Type} {m i q:Nat} {g h:Nat→α} {x:α}
@[simp] theorem Ek:(tab m g).length=m:=by unfold tab;simp
theorem tab_get?:(tab m g)[q]?=if q<m then some (g q) else none:=by
 unfold tab
 rw [List.getElem?_map]
 by_cases h:q<m
 ·rw [if_pos h,List.getElem?_range h];rfl
 ·rw [if_neg h,List.getElem?_eq_none (by simpa using h)];rfl
theorem Dr (hq:q<m):(tab m g)[q]?=some (g q):=by rw [tab_get?,if_pos hq]
theorem A9 (hq:q<m):(tab m g)[((q:Nat):Int).toNat]?=some (g q):=by rw [Int.toNat_natCast];exact Dr hq
theorem GJ {l:List α} (hl:l.length=m) (h: ∀q,q<m→l[q]?=some (g q)):l=tab m g:=by
 refine List.ext_getElem? fun q=>?_
 rw [tab_get?]
 by_cases hq:q<m
 ·rw [if_pos hq,h q hq]
 ·rw [if_neg hq,List.getElem?_eq_none (by omega)]
theorem Ax (he: ∀q,q<m→g q=h q):tab m g=tab m h:=GJ Ek fun q hq=>by rw [Dr hq,he q hq]
theorem Cq (hi:i<m) (h1:h i=x) (h2: ∀q,q<m→q≠i→h q=g q):(tab m g).set i x=tab m h:=GJ (by simp) fun q hq=>by
 by_cases hqi:q=i
 ·subst hqi
  rw [List.getElem?_set_self (by simpa using hq),h1]
 ·rw [List.getElem?_set_ne (Ne.symm hqi),Dr hq,h2 q hq hqi]
theorem Hg:tab m g++ [g m]=tab (m+1) g:=by unfold tab;rw [List.range_succ,List.map_append];rfl
theorem Jl (d:α) (l:List α):tab l.length (fun i=>l.getD i d)=l:=(GJ rfl fun q hq=>by
 rw [List.getD_eq_getElem?_getD,Zk hq];rfl).symm
theorem VZ (f:α→β):(tab m g).map f=tab m fun i=>f (g i):=by unfold tab;rw [List.map_map];rfl
theorem WB (f:α→β) (d:α) (l:List α):l.map f=tab l.length fun i=>f (l.getD i d):=by
 have:=congrArg (List.map f) (Jl d l)
 rw [VZ] at this
 exact this.symm
theorem Ej:List.replicate m x=tab m fun _=>x:=GJ (by simp) fun q hq=>by rw [List.getElem?_replicate,if_pos hq]
theorem Fl (d:α) (hq:q<m):(tab m g).getD q d=g q:=by rw [List.getD_eq_getElem?_getD,Dr hq];rfl
theorem Tq {k:Nat} (hk:k≤m):(tab m g).take k=tab k g:=GJ (by simp;omega) fun q hq=>by rw [List.getElem?_take,if_pos hq,Dr (by omega)]
end
def BQ (u d:Rat) (f:Nat→Rat):Nat→Nat→Rat
 | 0,i=>f i
 | k+1,i=>d*BQ u d f k i+u*BQ u d f k (i+1)
def G0 (u d:Rat) (f:Nat→Rat) (n s i:Nat) (q:Nat):Rat:=if q<i then BQ u d f (s+1) q else if q+s≤n then BQ u d f s q else BQ u d f (n-q) q
section
variable {u d z s:Rat} {f g:Nat→Rat} {n k i q t:Nat}
theorem Qh:tab (n+1) (G0 u d f n 0 0)=tab (n+1) f:=Ax fun q hq=>by unfold G0;rw [if_neg (by omega),if_pos (by omega)];rfl
theorem SX (h:k<n):tab (n+1) (G0 u d f n k (n-k))=tab (n+1) (G0 u d f n (k+1) 0):=Ax fun q hq=>by
 unfold G0
 rw [if_neg (Nat.not_lt_zero q)]
 by_cases h1:q<n-k
 ·rw [if_pos h1,if_pos (by omega)]
 ·rw [if_neg h1]
  by_cases h2:q+k≤n
  ·rw [if_pos h2,if_neg (by omega),show n-q=k by omega]
  ·rw [if_neg h2,if_neg (by omega)]
theorem Vm:tab (n+1) (G0 u d f n n 0)=tab (n+1) fun q=>BQ u d f (n-q) q:=Ax fun q hq=>by
 unfold G0
 rw [if_neg (Nat.not_lt_zero q)]
 by_cases h2:q+n≤n
 ·rw [if_pos h2]
  have:q=0:=by omega
  subst this
  rfl
 ·rw [if_neg h2]
theorem Vl (h:i+k<n) (hx:s=d*BQ u d f k i+u*BQ u d f k (i+1)):(tab (n+1) (G0 u d f n k i)).set i s=tab (n+1) (G0 u d f n k (i+1)):=
 Cq (by omega) (by unfold G0;rw [if_pos (by omega),hx];rfl) fun q hq hqi=>by
  unfold G0
  by_cases h1:q<i
  ·rw [if_pos h1,if_pos (by omega)]
  ·rw [if_neg h1,if_neg (by omega)]
theorem My (h:q+k≤n) (hi:i≤q):G0 u d f n k i q=BQ u d f k q:=by
 unfold G0
 rw [if_neg (by omega),if_pos h]
theorem FP (u d s z:Rat) (f:Nat→Rat): ∀(k i:Nat),BQ (u*z) (d*z) (fun i=>s*f i) k i=s*z^k*BQ u d f k i
 | 0,i=>by show s*f i=s*z^0*f i;rw [Rat.pow_zero,Rat.mul_one]
 | k+1,i=>by
   show d*z*BQ (u*z) (d*z) _ k i+u*z*BQ (u*z) (d*z) _ k (i+1)=s*z^(k+1)*(d*BQ u d f k i+u*BQ u d f k (i+1))
   rw [FP u d s z f k i,FP u d s z f k (i+1),Rat.pow_succ]
   grind
end
theorem Gv (x:Rat):x*((x.den:Int):Rat)=((x.num:Int):Rat):=by
 have h0:((x.den:Int):Rat)≠0:=by
  intro h
  have:x.den=0:=by exact_mod_cast h
  exact x.den_nz this
 have h:=Rat.mkRat_self x
 rw [Rat.mkRat_eq_div] at h
 rw [←Rat.intCast_natCast] at h
 generalize ((x.den:Int):Rat)=d at*
 generalize ((x.num:Int):Rat)=m at*
 rw [←h]
 grind
theorem Sz.pow {a E:Nat} (h:Sz a E): ∀k:Nat,Sz (k*a+1) (E^k)
 | 0=>by rw [Nat.pow_zero];exact Aj _ _ (by rw [Nat.zero_mul,Nat.zero_add];decide)
 | k+1=>by
   rw [Nat.pow_succ]
   exact (Sz.mul (Sz.pow h k) h).mono (by rw [Nat.succ_mul];omega)
def IB (D B:Nat) (x:Rat):Prop:= ∃k:Int,x*((D:Int):Rat)=(k:Rat)∧k.natAbs≤B
theorem IB.rsz {D B J:Nat} {x:Rat} (h:IB D B x) (hD:0<D) (h1:Sz J D) (h2:Sz J B):RSz J x:=by
 obtain ⟨k,hk,hb⟩:=h
 have h0:((D:Int):Rat)≠0:=by
  intro h
  have:(D:Int)=0:=by exact_mod_cast h
  omega
 have e:x=mkRat k D:=by
  rw [Rat.mkRat_eq_div,←hk,Rat.intCast_natCast]
  rw [Rat.intCast_natCast] at h0
  grind
 rw [e]
 exact RSz.of_mkRat (h2.le hb) h1 (by omega)
theorem IB.mono {D B B':Nat} {x:Rat} (h:IB D B x) (hb:B≤B'):IB D B' x:=by
 obtain ⟨k,h1,h2⟩:=h
 exact ⟨k,h1,Nat.le_trans h2 hb⟩
theorem NS (a b c d:Int):(a*b+c*d).natAbs≤a.natAbs*b.natAbs+c.natAbs*d.natAbs:=by
 rw [←Int.natAbs_mul,←Int.natAbs_mul]
 exact Int.natAbs_add_le _ _
theorem Mx {u d:Rat} {f:Nat→Rat} {D B E U V n:Nat} (hf: ∀i,i≤n→IB D B (f i)) (hu:IB E U u) (hd:IB E V d): ∀(k i:Nat),k+i≤n→IB (D*E^k) (B*(U+V)^k) (BQ u d f k i)
 | 0,i,h=>by rw [Nat.pow_zero,Nat.pow_zero,Nat.mul_one,Nat.mul_one];exact hf i (by omega)
 | k+1,i,h=>by
   obtain ⟨a,ha,hab⟩:=Mx hf hu hd k i (by omega)
   obtain ⟨b,hb,hbb⟩:=Mx hf hu hd k (i+1) (by omega)
   obtain ⟨p,hp,hpb⟩:=hu
   obtain ⟨q,hq,hqb⟩:=hd
   refine ⟨q*a+p*b,?_,?_⟩
   ·have e:((D*E^(k+1):Nat):Int)=(D*E^k:Nat)*(E:Nat):=by rw [Nat.pow_succ,←Nat.mul_assoc,Int.natCast_mul]
    show (d*BQ u d f k i+u*BQ u d f k (i+1))*(((D*E^(k+1):Nat):Int):Rat)=_
    rw [e,Rat.intCast_mul,Rat.intCast_add,Rat.intCast_mul,Rat.intCast_mul,←ha,←hb,←hp,←hq]
    grind
   ·refine Nat.le_trans (NS _ _ _ _) ?_
    have h1:=Nat.mul_le_mul hqb hab
    have h2:=Nat.mul_le_mul hpb hbb
    rw [Nat.pow_succ]
    have:B*((U+V)^k*(U+V))=V*(B*(U+V)^k)+U*(B*(U+V)^k):=by
     rw [←Nat.mul_assoc,Nat.mul_add,Nat.mul_comm V,Nat.mul_comm U,Nat.add_comm]
    omega
def A5 (x:Rat):Rat:=((x.den:Int):Rat)
theorem J3 (x:Rat):0<A5 x:=by
 unfold A5
 have h:(0:Int)<(x.den:Int):=by have:=x.den_pos;omega
 have:=Rat.intCast_lt_intCast.2 h
 simpa using this
def whS:Rat→List Rat→Rat
 | s,[]=>s
 | s,r::l=>whS (s*A5 (s*r)) l
theorem WQ {x:Rat} {k:Nat} {z:Int} (hk:0<k) (h:x*((k:Int):Rat)=(z:Rat)):x.den∣k:=by
 have h0:((x.den:Int):Rat)≠0:=by have:=J3 x;unfold A5 at this;grind
 have h1:x*((x.den:Int):Rat)=((x.num:Int):Rat):=Gv _
 have h2:((x.num*k:Int):Rat)=((z*x.den:Int):Rat):=by
  rw [Rat.intCast_mul,Rat.intCast_mul,←h1,←h]
  grind
 have h3:x.num*k=z*x.den:=Rat.intCast_inj.1 h2
 have h4:x.den∣x.num.natAbs*k:=by
  refine ⟨z.natAbs,?_⟩
  have:=congrArg Int.natAbs h3
  rw [Int.natAbs_mul,Int.natAbs_mul] at this
  simpa [Nat.mul_comm] using this
 exact (Nat.Coprime.symm x.reduced).dvd_of_dvd_mul_left h4
theorem IN (m:Nat) (r:Rat):(((m:Int):Rat)*r).den∣r.den:=by
 have h1:r*((r.den:Int):Rat)=((r.num:Int):Rat):=Gv _
 refine WQ r.den_pos (z:=m*r.num) ?_
 rw [Rat.intCast_mul,←h1]
 grind
theorem QN {a m:Nat} (h:Sz a m) (h1:1≤a):RSz a ((m:Int):Rat):=by
 have e:((m:Int):Rat)=mkRat m 1:=by rw [Rat.mkRat_one]
 rw [e]
 exact RSz.of_mkRat (by simpa using h) (Aj _ _ (by
  have:(4294967296:Nat)^a≥4294967296^1:=Nat.pow_le_pow_right (by decide) h1
  omega)) (by decide)
theorem Ta {m a j:Nat} {r:Rat} (hm:0<m) (ha:Sz a m) (hr:RSz j r): ∃n:Nat,0<n∧((m:Int):Rat)*A5 (((m:Int):Rat)*r)=((n:Int):Rat)∧Sz (a+j) n:=by
 have hd:=IN m r
 refine ⟨m*(((m:Int):Rat)*r).den,Nat.mul_pos hm (Rat.den_pos _),?_,ha.mul (hr.2.le (Nat.le_of_dvd r.den_pos hd))⟩
 unfold A5
 rw [Int.natCast_mul,Rat.intCast_mul]
theorem DC {j:Nat} : ∀(l:List Rat) (m a:Nat),0<m→Sz a m→(∀r∈l,RSz j r)→ ∃M:Nat,0<M∧m∣M∧whS ((m:Int):Rat) l=((M:Int):Rat)∧Sz (a+l.length*j) M∧ ∀r∈l,∃z:Int,((M:Int):Rat)*r=(z:Rat)
 | [],m,a,hm,ha,_=>⟨m,hm,Nat.dvd_refl _,rfl,by simpa using ha,fun r hr=>by cases hr⟩
 | r::l,m,a,hm,ha,hj=>by
   have hd:=IN m r
   obtain ⟨e,he⟩: ∃e,e=(((m:Int):Rat)*r).den:=⟨_,rfl⟩
   have hep:0<e:=by rw [he];exact Rat.den_pos _
   have hes:Sz j e:=(hj r List.mem_cons_self).2.le (Nat.le_of_dvd r.den_pos (he▸hd))
   obtain ⟨M,h1,h2,h3,h4,h5⟩:=DC (j:=j) l (m*e) (a+j) (Nat.mul_pos hm hep) (ha.mul hes) fun r hr=>hj r (List.mem_cons_of_mem _ hr)
   have e1:((m:Int):Rat)*A5 (((m:Int):Rat)*r)=(((m*e:Nat):Int):Rat):=by
    unfold A5
    rw [←he,Int.natCast_mul,Rat.intCast_mul]
   refine ⟨M,h1,Nat.dvd_trans (Nat.dvd_mul_right m e) h2,?_,h4.mono (by rw [List.length_cons,Nat.succ_mul];omega),fun x hx=>?_⟩
   ·show whS (((m:Int):Rat)*A5 (((m:Int):Rat)*r)) l=_
    rw [e1];exact h3
   ·rcases List.mem_cons.1 hx with rfl|hx
    ·obtain ⟨c,hc⟩:=h2
     have h6:((m:Int):Rat)*x*((e:Int):Rat)=(((((m:Int):Rat)*x).num:Int):Rat):=by rw [he];exact Gv _
     refine ⟨c*(((m:Int):Rat)*x).num,?_⟩
     rw [hc,Rat.intCast_mul,←h6,Int.natCast_mul,Int.natCast_mul,Rat.intCast_mul,Rat.intCast_mul]
     grind
    ·exact h5 x hx
def bin:Nat→Nat→Nat
 | _,0=>1
 | 0,_+1=>0
 | n+1,k+1=>bin n k+bin n (k+1)
theorem CP (n:Nat):bin n 0=1:=by cases n<;>rfl
theorem Dp: ∀ {n k:Nat},n<k→bin n k=0
 | 0,k+1,_=>rfl
 | n+1,k+1,h=>by show bin n k+bin n (k+1)=0;rw [Dp (by omega),Dp (by omega)]
theorem H9: ∀n:Nat,bin n n=1
 | 0=>rfl
 | n+1=>by show bin n n+bin n (n+1)=1;rw [H9 n,Dp (by omega)]
theorem Rr: ∀ {n k:Nat},k≤n→0<bin n k
 | n,0,_=>by rw [CP];exact Nat.zero_lt_one
 | n+1,k+1,h=>by show 0<bin n k+bin n (k+1);have:=Rr (n:=n) (k:=k) (by omega);omega
theorem Qm: ∀n k:Nat,bin n k≤2^n
 | n,0=>by rw [CP];exact Nat.one_le_two_pow
 | 0,k+1=>by show 0≤_;exact Nat.zero_le _
 | n+1,k+1=>by
   show bin n k+bin n (k+1)≤_
   have h1:=Qm n k
   have h2:=Qm n (k+1)
   rw [Nat.pow_succ];omega
theorem Fz: ∀ {n k:Nat},k≤n→bin n (k+1)*(k+1)=bin n k*(n-k)
 | 0,k,h=>by
   have:k=0:=by omega
   subst this
   rfl
 | n+1,0,_=>by
   show (bin n 0+bin n (0+1))*(0+1)=bin (n+1) 0*(n+1-0)
   have h1:=Fz (n:=n) (k:=0) (Nat.zero_le _)
   simp only [CP] at*
   omega
 | n+1,k+1,h=>by
   show (bin n (k+1)+bin n (k+1+1))*(k+1+1)=(bin n k+bin n (k+1))*(n+1-(k+1))
   have h1:=Fz (n:=n) (k:=k) (by omega)
   rw [show n+1-(k+1)=n-k by omega,Nat.add_mul,Nat.add_mul,←h1]
   by_cases h0:k=n
   ·subst h0
    rw [Dp (show k<k+1 by omega),Dp (show k<k+1+1 by omega)];simp
   ·have h2:=Fz (n:=n) (k:=k+1) (by omega)
    rw [h2,←Nat.mul_add,←Nat.mul_add]
    congr 1
    omega
def chR (n:Int):Nat→Rat
 | 0=>((1:Int):Rat)
 | k+1=>chR n k*(((n-(k:Nat):Int):Rat)/((((k:Nat):Int)+1:Int):Rat))
abbrev AF (n k:Nat):Rat:=((bin n k:Int):Rat)
theorem Mw (n:Nat): ∀k:Nat,k≤n→chR (n:Nat) k=AF n k
 | 0,_=>by show ((1:Int):Rat)=((bin n 0:Int):Rat);rw [CP];rfl
 | k+1,h=>by
   show chR (n:Nat) k*_=_
   rw [Mw n k (by omega)]
   have h1:=Fz (n:=n) (k:=k) (by omega)
   have h2:((bin n (k+1):Int):Rat)*((((k:Nat):Int)+1:Int):Rat)=((bin n k:Int):Rat)*(((n:Nat)-(k:Nat):Int):Rat):=by
    rw [←Rat.intCast_mul,←Rat.intCast_mul]
    congr 1
    have h3:((bin n (k+1)*(k+1):Nat):Int)=((bin n k*(n-k):Nat):Int):=by rw [h1]
    rw [Int.natCast_mul,Int.natCast_mul,show ((n-k:Nat):Int)=(n:Int)-(k:Int) by omega] at h3
    exact h3
   have h0:((((k:Nat):Int)+1:Int):Rat)≠0:=by
    intro h
    have:(((k:Nat):Int)+1:Int)=0:=by exact_mod_cast h
    omega
   unfold AF
   generalize ((bin n (k+1):Int):Rat)=x at*
   generalize ((bin n k:Int):Rat)=y at*
   generalize ((((k:Nat):Int)+1:Int):Rat)=z at*
   generalize (((n:Nat)-(k:Nat):Int):Rat)=w at*
   have e:y*(w/z)=y*w/z:=by grind
   rw [e,←h2]
   grind
theorem Ep {n k:Nat} (h:k≤n):AF n k≠0:=by
 intro h0
 have h1:((bin n k:Int):Rat)=((0:Int):Rat):=h0
 have:=Rat.intCast_inj.1 h1
 have:=Rr h
 omega
def Ct (a b:Nat→Rat) (n:Nat):Nat→Nat→Rat
 | 0,_=>0
 | i+1,k=>Ct a b n i k+(if i≤k∧k≤i+n then a i*b (k-i) else 0)
def Do (a b:Nat→Rat) (n i j:Nat) (k:Nat):Rat:=Ct a b n i k+(if i≤k∧k<i+j then a i*b (k-i) else 0)
section
variable {a b:Nat→Rat} {m n i j k N:Nat}
theorem Ox:tab N (Do a b n i 0)=tab N (Ct a b n i):=Ax fun k _=>by
 unfold Do
 rw [if_neg (by omega)]
 exact Rat.add_zero _
theorem SU:tab N (Do a b n i (n+1))=tab N (Ct a b n (i+1)):=Ax fun k _=>by
 unfold Do
 show _=Ct a b n i k+_
 by_cases h:i≤k∧k≤i+n
 ·rw [if_pos h,if_pos ⟨h.1,by omega⟩]
 ·rw [if_neg h,if_neg (fun hh=>h ⟨hh.1,by omega⟩)]
theorem Oy:Do a b n i j (i+j)=Ct a b n i (i+j):=by
 unfold Do
 rw [if_neg (by omega)]
 exact Rat.add_zero _
theorem ST {x:Rat} (h:i+j<N) (hx:x=Do a b n i j (i+j)+a i*b j):(tab N (Do a b n i j)).set (i+j) x=tab N (Do a b n i (j+1)):=
 Cq h (by
  rw [hx,Oy]
  unfold Do
  rw [if_pos ⟨by omega,by omega⟩,show i+j-i=j by omega]) fun q hq hqi=>by
  unfold Do
  congr 1
  by_cases h:i≤q∧q<i+j
  ·rw [if_pos h,if_pos ⟨h.1,by omega⟩]
  ·rw [if_neg h,if_neg (fun hh=>h ⟨hh.1,by omega⟩)]
theorem IQ (s t:Rat): ∀(i k:Nat),Ct (fun i=>s*a i) (fun i=>t*b i) n i k=s*t*Ct a b n i k
 | 0,k=>by show (0:Rat)=s*t*0;grind
 | i+1,k=>by
   show Ct _ _ n i k+_=s*t*(Ct a b n i k+_)
   rw [IQ s t i k]
   split<;>grind
theorem Gg {a' b':Nat→Rat} : ∀ {i k:Nat},(∀q,q<i→a q=a' q)→(∀q,q≤n→b q=b' q)→Ct a b n i k=Ct a' b' n i k
 | 0,_,_,_=>rfl
 | i+1,k,h1,h2=>by
   show Ct a b n i k+_=Ct a' b' n i k+_
   rw [Gg (i:=i) (fun q hq=>h1 q (by omega)) h2]
   congr 1
   by_cases h:i≤k∧k≤i+n
   ·rw [if_pos h,if_pos h,h1 i (by omega),h2 (k-i) (by omega)]
   ·rw [if_neg h,if_neg h]
end
def CI (f:Nat→Rat):Nat→Nat→Rat
 | 0,i=>f i
 | k+1,i=>CI f k (i+1)-CI f k i
theorem GZ (s:Rat) (f:Nat→Rat): ∀(k i:Nat),CI (fun i=>s*f i) k i=s*CI f k i
 | 0,_=>rfl
 | k+1,i=>by
   show CI _ k (i+1)-CI _ k i=s*(CI f k (i+1)-CI f k i)
   rw [GZ s f k,GZ s f k]
   grind
def Dt (f:Nat→Rat):Nat→Nat→Rat
 | m,0=>f m
 | m,d+1=>Dt f m d+Dt f (m+1) d
theorem GM (s:Rat) (f:Nat→Rat): ∀(d m:Nat),Dt (fun i=>s*f i) m d=s*Dt f m d
 | 0,_=>rfl
 | d+1,m=>by
   show Dt _ m d+Dt _ (m+1) d=s*(Dt f m d+Dt f (m+1) d)
   rw [GM s f d,GM s f d]
   grind
def DN (g:Nat→Rat):Nat→Rat
 | 0=>0
 | c+1=>DN g c+g c
theorem GL {g h:Nat→Rat} : ∀ {c:Nat},(∀i,i<c→g i=h i)→DN g c=DN h c
 | 0,_=>rfl
 | c+1,hh=>by show DN g c+g c=DN h c+h c;rw [GL (c:=c) fun i hi=>hh i (by omega),hh c (by omega)]
theorem Nf (g h:Nat→Rat): ∀c:Nat,DN (fun i=>g i+h i) c=DN g c+DN h c
 | 0=>by show (0:Rat)=0+0;grind
 | c+1=>by show DN _ c+(g c+h c)=DN g c+g c+(DN h c+h c);rw [Nf g h c];grind
theorem GK (g:Nat→Rat): ∀c:Nat,DN g (c+1)=g 0+DN (fun i=>g (i+1)) c
 | 0=>by show (0:Rat)+g 0=g 0+0;grind
 | c+1=>by
   show DN g (c+1)+g (c+1)=g 0+(DN (fun i=>g (i+1)) c+g (c+1))
   rw [GK g c];grind
theorem Jq (f:Nat→Rat): ∀(d m:Nat),Dt f m d=DN (fun k=>AF d k*f (m+k)) (d+1)
 | 0,m=>by
   show f m=0+((bin 0 0:Int):Rat)*f (m+0)
   rw [Nat.add_zero]
   have:((bin 0 0:Int):Rat)=1:=rfl
   rw [this];grind
 | d+1,m=>by
   show Dt f m d+Dt f (m+1) d=_
   rw [Jq f d m,Jq f d (m+1)]
   have e1:DN (fun k=>AF d k*f (m+k)) (d+1)=DN (fun k=>AF d k*f (m+k)) (d+1+1):=by
    show _=DN _ (d+1)+AF d (d+1)*_
    have:AF d (d+1)=0:=by unfold AF;rw [Dp (by omega)];rfl
    rw [this];grind
   rw [e1,GK,GK (fun k=>AF (d+1) k*f (m+k))]
   have e2:AF (d+1) 0=AF d 0:=by unfold AF;rw [CP,CP]
   rw [e2,Rat.add_assoc]
   congr 1
   rw [←Nf]
   refine GL fun i _=>?_
   show AF d (i+1)*f (m+(i+1))+AF d i*f (m+1+i)=AF (d+1) (i+1)*f (m+(i+1))
   have e3:AF (d+1) (i+1)=AF d i+AF d (i+1):=by
    unfold AF
    show ((((bin d i+bin d (i+1):Nat):Nat):Int):Rat)=_
    rw [Int.natCast_add,Rat.intCast_add]
   rw [e3,show m+1+i=m+(i+1) by omega]
   grind
def Sx (t:Rat) (f:Nat→Rat) (i:Nat):Rat:=BQ t (1-t) f i 0
def VJ (t:Rat) (f:Nat→Rat) (n i:Nat):Rat:=BQ t (1-t) f (n-i) i
theorem FH {z:Rat} (h:z≠0): ∀k:Nat,z^k≠0
 | 0=>by rw [Rat.pow_zero];decide
 | k+1=>by
   rw [Rat.pow_succ]
   have:=FH h k
   intro h0
   rcases Rat.mul_eq_zero.1 h0 with h1|h1
   ·exact this h1
   ·exact h h1
theorem Du {x y:Rat} (h:x≠0) (k:y≠0):x*y≠0:=fun h0=>by
 rcases Rat.mul_eq_zero.1 h0 with h1|h1
 ·exact h h1
 ·exact k h1
theorem El {x y:Rat} (h:x≠0):x*y/x=y:=by grind
section
variable {s z t u d:Rat} {f:Nat→Rat} {n i:Nat}
theorem Ro (hs:s≠0) (hz:z≠0) (hu:u=t*z) (hd:d=z-u):BQ u d (fun i=>s*f i) i 0/(s*z^i)=Sx t f i:=by
 have e:d=(1-t)*z:=by rw [hd,hu];grind
 rw [e,hu,FP]
 exact El (Du hs (FH hz i))
theorem WY (hs:s≠0) (hz:z≠0) (hu:u=t*z) (hd:d=z-u):BQ u d (fun i=>s*f i) (n-i) i/(s*z^(n-i))=VJ t f n i:=by
 have e:d=(1-t)*z:=by rw [hd,hu];grind
 rw [e,hu,FP]
 exact El (Du hs (FH hz _))
end
theorem Rs {n k:Nat} (h:k≤n):bin (n+1) (k+1)*(k+1)=bin n k*(n+1):=by
 show (bin n k+bin n (k+1))*(k+1)=_
 rw [Nat.add_mul,Fz h,←Nat.mul_add]
 congr 1
 omega
theorem Vt {n k:Nat} (h:k≤n+1):bin (n+1) k*(n+1-k)=bin n k*(n+1):=by
 rw [←Fz (n:=n+1) (k:=k) h]
 by_cases h0:k≤n
 ·exact Rs h0
 ·obtain rfl:k=n+1:=by omega
  rw [Dp (show n+1<n+1+1 by omega),Dp (show n<n+1 by omega)]
  simp
def C6 (f:Nat→Rat) (n i:Nat):Rat:=if i=0 then f 0 else if i=n then f (n-1) else f i+(f (i-1)-f i)*(((i:Int):Rat)/((n:Int):Rat))
theorem Xp {a b c d:Nat} (h:a*b=c*d):((a:Int):Rat)*((b:Int):Rat)=((c:Int):Rat)*((d:Int):Rat):=by
 rw [←Rat.intCast_mul,←Rat.intCast_mul,←Int.natCast_mul,←Int.natCast_mul,h]
theorem FJ {n:Nat} (h:0<n):((n:Int):Rat)≠0:=fun h0=>by
 have h1:((n:Int):Rat)=((0:Int):Rat):=h0
 have:=Rat.intCast_inj.1 h1
 omega
theorem Ob (f:Nat→Rat) {N i:Nat} (h:i≤N+1):AF (N+1) i*C6 f (N+1) i=(if i≤N then AF N i*f i else 0)+(if 0<i then AF N (i-1)*f (i-1) else 0):=by
 unfold C6
 by_cases h0:i=0
 ·subst h0
  rw [if_pos rfl,if_pos (Nat.zero_le _),if_neg (Nat.lt_irrefl 0)]
  unfold AF
  rw [CP,CP,Rat.add_zero]
 ·rw [if_neg h0,if_pos (show 0<i by omega)]
  obtain ⟨k,rfl⟩: ∃k,i=k+1:=⟨i-1,by omega⟩
  simp only [Nat.add_sub_cancel]
  by_cases h1:k+1=N+1
  ·have hk:k=N:=by omega
   subst hk
   rw [if_pos rfl,if_neg (by omega)]
   unfold AF
   rw [H9,H9]
   grind
  ·rw [if_neg h1,if_pos (show k+1≤N by omega)]
   have e1:=Xp (Rs (n:=N) (k:=k) (by omega))
   have e2:=Xp (Vt (n:=N) (k:=k+1) (by omega))
   have h2:=FJ (n:=N+1) (by omega)
   have e3:((((N+1-(k+1):Nat)):Int):Rat)=(((N+1:Nat):Int):Rat)-(((k+1:Nat):Int):Rat):=by
    rw [←Rat.intCast_sub]
    congr 1
    omega
   rw [e3] at e2
   unfold AF
   generalize (((N+1:Nat):Int):Rat)=n at*
   generalize (((k+1:Nat):Int):Rat)=q at*
   generalize ((bin (N+1) (k+1):Int):Rat)=b at*
   generalize ((bin N k:Int):Rat)=c at*
   generalize ((bin N (k+1):Int):Rat)=d at*
   generalize f (k+1)=x at*
   generalize f k=y at*
   have e4:b*(q/n)=c:=by
    have:b*(q/n)=b*q/n:=by grind
    rw [this,e1];grind
   have e5:b*(1-q/n)=d:=by
    have:b*(1-q/n)=b*(n-q)/n:=by grind
    rw [this,e2];grind
   have:b*(x+(y-x)*(q/n))=b*(1-q/n)*x+b*(q/n)*y:=by grind
   rw [this,e4,e5]
def BO (f:Nat→Rat) (N:Nat):Nat→Nat→Rat
 | 0=>f
 | d+1=>C6 (BO f N d) (N+d+1)
def D8 (a:Nat→Rat) (d:Nat):Nat→Nat→Rat
 | 0,_=>0
 | i+1,k=>D8 a d i k+(if i≤k then a i*AF d (k-i) else 0)
theorem In (a:Nat→Rat) (d:Nat): ∀i k:Nat,Ct a (AF d) d i k=D8 a d i k
 | 0,_=>rfl
 | i+1,k=>by
   show Ct a (AF d) d i k+_=D8 a d i k+_
   rw [In a d i k]
   congr 1
   by_cases h:i≤k
   ·by_cases h2:k≤i+d
    ·rw [if_pos ⟨h,h2⟩,if_pos h]
    ·rw [if_neg (fun hh=>h2 hh.2),if_pos h]
     have:AF d (k-i)=0:=by unfold AF;rw [Dp (by omega)];rfl
     rw [this,Rat.mul_zero]
   ·rw [if_neg (fun hh=>h hh.1),if_neg h]
theorem KP (a:Nat→Rat) (d:Nat): ∀i k:Nat,D8 a (d+1) i k=D8 a d i k+(if 0<k then D8 a d i (k-1) else 0)
 | 0,k=>by show (0:Rat)=0+_;split<;>grind [D8]
 | i+1,k=>by
   show D8 a (d+1) i k+_=D8 a d i k+_+(if 0<k then D8 a d i (k-1)+_ else 0)
   rw [KP a d i k]
   have e:(if i≤k then a i*AF (d+1) (k-i) else 0)=(if i≤k then a i*AF d (k-i) else 0)+(if 0<k then (if i≤k-1 then a i*AF d (k-1-i) else 0) else 0):=by
    by_cases h:i≤k
    ·rw [if_pos h,if_pos h]
     by_cases h2:i=k
     ·subst h2
      rw [Nat.sub_self]
      have:(if 0<i then (if i≤i-1 then a i*AF d (i-1-i) else 0) else 0)=(0:Rat):=by
       by_cases h3:0<i
       ·rw [if_pos h3,if_neg (by omega)]
       ·rw [if_neg h3]
      rw [this,Rat.add_zero]
      unfold AF
      rw [CP,CP]
     ·rw [if_pos (show 0<k by omega),if_pos (show i≤k-1 by omega)]
      obtain ⟨q,hq⟩: ∃q,k-i=q+1:=⟨k-i-1,by omega⟩
      rw [hq,show k-1-i=q by omega]
      have:AF (d+1) (q+1)=AF d q+AF d (q+1):=by
       unfold AF
       show ((((bin d q+bin d (q+1):Nat):Nat):Int):Rat)=_
       rw [Int.natCast_add,Rat.intCast_add]
      rw [this];grind
    ·rw [if_neg h,if_neg h]
     have:(if 0<k then (if i≤k-1 then a i*AF d (k-1-i) else 0) else 0)=(0:Rat):=by
      by_cases h3:0<k
      ·rw [if_pos h3,if_neg (by omega)]
      ·rw [if_neg h3]
     rw [this];grind
   rw [e]
   by_cases h3:0<k
   ·simp only [if_pos h3];grind
   ·simp only [if_neg h3];grind
theorem KO (a:Nat→Rat): ∀i k:Nat,D8 a 0 i k=if k<i then a k else 0
 | 0,k=>by rw [if_neg (Nat.not_lt_zero k)];rfl
 | i+1,k=>by
   show D8 a 0 i k+_=_
   rw [KO a i k]
   have b0: ∀q,AF 0 q=if q=0 then 1 else 0:=fun q=>by
    cases q with
    | zero=>rfl
    | succ q=>rfl
   rw [b0]
   by_cases h:k<i
   ·rw [if_pos h,if_neg (show ¬i≤k by omega),if_pos (by omega)];grind
   ·rw [if_neg h]
    by_cases h2:k=i
    ·subst h2
     rw [if_pos (Zj _),Nat.sub_self,if_pos rfl,if_pos (by omega)];grind
    ·rw [if_pos (show i≤k by omega),if_neg (show ¬k-i=0 by omega),if_neg (by omega)];grind
theorem GA (f:Nat→Rat) (N:Nat): ∀d k:Nat,k≤N+d→AF (N+d) k*BO f N d k=D8 (fun i=>AF N i*f i) d (N+1) k
 | 0,k,h=>by
   rw [KO,if_pos (by omega)]
   rfl
 | d+1,k,h=>by
   show AF (N+d+1) k*C6 (BO f N d) (N+d+1) k=_
   rw [Ob _ (by omega),KP]
   congr 1
   ·by_cases h1:k≤N+d
    ·rw [if_pos h1];exact GA f N d k h1
    ·rw [if_neg h1]
     have key: ∀i k,i+d≤k→D8 (fun i=>AF N i*f i) d i k=0:=by
      intro i
      induction i with
      | zero=>intro k _;rfl
      | succ i ih=>
        intro k hk
        show D8 _ d i k+_=0
        rw [ih k (by omega),if_pos (by omega)]
        have:AF d (k-i)=0:=by unfold AF;rw [Dp (by omega)];rfl
        rw [this];grind
     exact (key (N+1) k (by omega)).symm
   ·by_cases h1:0<k
    ·rw [if_pos h1,if_pos h1];exact GA f N d (k-1) (by omega)
    ·rw [if_neg h1,if_neg h1]
def dfI (f:Nat→Rat) (o i q:Nat):Rat:=if i<q then CI f (o+1) (q-(o+1)) else if q≤o then CI f q 0 else CI f o (q-o)
section
variable {f g:Nat→Rat} {n o i q:Nat} {x:Rat}
theorem SO:tab (n+1) (dfI f 0 n)=tab (n+1) f:=Ax fun q hq=>by
 unfold dfI
 rw [if_neg (by omega)]
 by_cases h:q≤0
 ·rw [if_pos h,show q=0 by omega];rfl
 ·rw [if_neg h];rfl
theorem U6:tab (n+1) (dfI f o o)=tab (n+1) (dfI f (o+1) n):=Ax fun q hq=>by
 unfold dfI
 rw [if_neg (show ¬n<q by omega)]
 by_cases h:o<q
 ·rw [if_pos h]
  by_cases h2:q≤o+1
  ·rw [if_pos h2,show q=o+1 by omega,Nat.sub_self]
  ·rw [if_neg h2]
 ·rw [if_neg h,if_pos (by omega),if_pos (by omega)]
theorem WO:tab (n+1) (dfI f n n)=tab (n+1) fun q=>CI f q 0:=Ax fun q hq=>by
 unfold dfI
 rw [if_neg (by omega),if_pos (by omega)]
theorem Yk (h:o<i):dfI f o i i=CI f o (i-o):=by
 unfold dfI
 rw [if_neg (by omega),if_neg (by omega)]
theorem WN (h:o<i):dfI f o i (i-1)=CI f o (i-1-o):=by
 unfold dfI
 rw [if_neg (by omega)]
 by_cases h2:i-1≤o
 ·rw [if_pos h2,show i-1=o by omega,Nat.sub_self]
 ·rw [if_neg h2]
theorem WM (h:o<i) (hi:i≤n) (hx:x=dfI f o i i-dfI f o i (i-1)):(tab (n+1) (dfI f o i)).set i x=tab (n+1) (dfI f o (i-1)):=
 Cq (by omega) (by
  rw [hx,Yk h,WN h]
  unfold dfI
  rw [if_pos (by omega)]
  show CI f o (i-(o+1)+1)-CI f o (i-(o+1))=_
  rw [show i-(o+1)+1=i-o by omega,show i-(o+1)=i-1-o by omega]) fun q hq hqi=>by
  unfold dfI
  by_cases h1:i<q
  ·rw [if_pos h1,if_pos (by omega)]
  ·rw [if_neg h1,if_neg (by omega)]
def smI (f:Nat→Rat) (o i q:Nat):Rat:=if q<o then f q else if q<i then Dt f (o-1) (q-o+1) else Dt f o (q-o)
theorem RU:tab (n+1) (smI f n n)=tab (n+1) f:=Ax fun q hq=>by
 unfold smI
 by_cases h:q<n
 ·rw [if_pos h]
 ·rw [if_neg h,if_neg h,show q=n by omega,Nat.sub_self];rfl
theorem Tx (h:0<o):tab (n+1) (smI f o (n+1))=tab (n+1) (smI f (o-1) (o-1)):=Ax fun q hq=>by
 unfold smI
 by_cases h1:q<o
 ·rw [if_pos h1]
  by_cases h2:q<o-1
  ·rw [if_pos h2]
  ·rw [if_neg h2,if_neg h2,show q=o-1 by omega,Nat.sub_self];rfl
 ·rw [if_neg h1,if_pos hq,if_neg (by omega),if_neg (by omega),show q-(o-1)=q-o+1 by omega]
theorem V8:tab (n+1) (smI f 0 0)=tab (n+1) fun q=>Dt f 0 q:=Ax fun q hq=>by
 unfold smI
 rw [if_neg (by omega),if_neg (by omega)];rfl
theorem V7 (h:0<o) (hoi:o≤i) (hi:i≤n) (hx:x=smI f o i i+smI f o i (i-1)):(tab (n+1) (smI f o i)).set i x=tab (n+1) (smI f o (i+1)):=
 Cq (by omega) (by
  have e1:smI f o i i=Dt f o (i-o):=by unfold smI;rw [if_neg (by omega),if_neg (by omega)]
  have e2:smI f o i (i-1)=Dt f (o-1) (i-o):=by
   unfold smI
   by_cases h1:i-1<o
   ·rw [if_pos h1,show i-1=o-1 by omega,show i-o=0 by omega];rfl
   ·rw [if_neg h1,if_pos (by omega),show i-1-o+1=i-o by omega]
  rw [hx,e1,e2]
  unfold smI
  rw [if_neg (by omega),if_pos (by omega)]
  show Dt f (o-1) (i-o)+Dt f (o-1+1) (i-o)=_
  rw [show o-1+1=o by omega]
  exact Rat.add_comm _ _) fun q hq hqi=>by
  unfold smI
  by_cases h1:q<o
  ·rw [if_pos h1,if_pos h1]
  ·rw [if_neg h1,if_neg h1]
   by_cases h2:q<i
   ·rw [if_pos h2,if_pos (by omega)]
   ·rw [if_neg h2,if_neg (by omega)]
theorem FE: ∀ {d m:Nat},(∀j,j≤m+d→f j=g j)→Dt f m d=Dt g m d
 | 0,m,h=>h m (by omega)
 | d+1,m,h=>by
   show Dt f m d+Dt f (m+1) d=Dt g m d+Dt g (m+1) d
   rw [FE (d:=d) (m:=m) fun j hj=>h j (by omega),FE (d:=d) (m:=m+1) fun j hj=>h j (by omega)]
end
def EU (f:Nat→Rat) (n k:Nat):Rat:=AF n k*CI f k 0
def DG (c:Nat→Rat) (n i:Nat):Rat:=Dt (fun k=>c k/AF n k) 0 i
theorem M7 {s:Rat} {f:Nat→Rat} {n k:Nat} (hs:s≠0):CI (fun i=>s*f i) k 0*AF n k/s=EU f n k:=by
 rw [GZ]
 unfold EU
 grind
theorem NQ {s:Rat} {c:Nat→Rat} {n i:Nat} (hs:s≠0):Dt (fun k=>s*(c k/AF n k)) 0 i/s=DG c n i:=by
 rw [GM]
 unfold DG
 grind
def ofT (c:Nat→Rat) (n i:Nat) (k:Nat):Rat:=AF i k/AF n k*c k
theorem Up {c:Nat→Rat} {n i:Nat} :DG c n i=DN (ofT c n i) (i+1):=by
 unfold DG
 rw [Jq]
 refine GL fun k hk=>?_
 rw [Nat.zero_add]
 unfold ofT
 grind
theorem Js (x:Rat):Bx x= -1∨Bx x=0∨Bx x=1:=by
 unfold Bx
 split
 ·exact .inr (.inl rfl)
 ·split
  ·exact .inl rfl
  ·exact .inr (.inr rfl)
theorem RY {x:Rat} :Bx x=0↔x=0:=I3
def GC:Int→List Rat→Nat
 | _,[]=>0
 | s,x::l=>if Bx x=0 then GC s l else (if Bx x= -s then 1 else 0)+GC (Bx x) l
abbrev S3 (s:Int):Prop:=s= -1∨s=0∨s=1
section
variable {f:Nat→Rat} {n:Nat} {t:Rat}
end
section
variable {a b:Rat} {e:Int}
theorem VF {x:Rat} {l:List Rat} {s:Int} (h:Bx x≠0):GC s (x::l)=(if Bx x= -s then 1 else 0)+GC (Bx x) l:=if_neg h
theorem Xz {x:Rat} {l:List Rat} {s:Int} (h:Bx x=0):GC s (x::l)=GC s l:=if_pos h
end
end Go.Proofs.YtnkobfcnflphkaaGreatDoor
