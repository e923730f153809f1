/-
  Several texts in one: Zm, Zn, Zp, Zq, Zx, Zy, Zz.
-/
import Derived.Test.YtnkobfcnflphkaaGreatDoorBj
import Derived.Test.YtnkobfcnflphkaaGreatDoorGr
namespace Go.Proofs.YtnkobfcnflphkaaGreatDoor
set_option linter.unusedVariables false
set_option linter.unusedSimpArgs false
def tab {α:Type} (m:Nat) (g:Nat→α):List α:=(List.range m).map g
section
variable {α β:Type} {m i q:Nat} {g h:Nat→α} {x:α}
@[simp] theorem tab_len:(tab m g).length=m:=by unfold tab;simp
theorem tab_get?:(tab m g)[q]?=if q<m then some (g q) else none:=by
 unfold tab
 rw [List.getElem?_map]
 by_cases h:q<m
 ·rw [if_pos h,List.getElem?_range h];rfl
 ·rw [if_neg h,List.getElem?_eq_none (by simpa using h)];rfl
theorem tab_get (hq:q<m):(tab m g)[q]?=some (g q):=by rw [tab_get?,if_pos hq]
theorem tab_at (hq:q<m):(tab m g)[((q:Nat):Int).toNat]?=some (g q):=by rw [Int.toNat_natCast];exact tab_get hq
theorem tab_eq {l:List α} (hl:l.length=m) (h: ∀q,q<m→l[q]?=some (g q)):l=tab m g:=by
 refine List.ext_getElem? fun q=>?_
 rw [tab_get?]
 by_cases hq:q<m
 ·rw [if_pos hq,h q hq]
 ·rw [if_neg hq,List.getElem?_eq_none (by omega)]
theorem tab_congr (he: ∀q,q<m→g q=h q):tab m g=tab m h:=tab_eq tab_len fun q hq=>by rw [tab_get hq,he q hq]
theorem tab_set (hi:i<m) (h1:h i=x) (h2: ∀q,q<m→q≠i→h q=g q):(tab m g).set i x=tab m h:=tab_eq (by simp) fun q hq=>by
 by_cases hqi:q=i
 ·subst hqi
  rw [List.getElem?_set_self (by simpa using hq),h1]
 ·rw [List.getElem?_set_ne (Ne.symm hqi),tab_get hq,h2 q hq hqi]
theorem tab_succ:tab m g++ [g m]=tab (m+1) g:=by unfold tab;rw [List.range_succ,List.map_append];rfl
theorem tab_of (d:α) (l:List α):tab l.length (fun i=>l.getD i d)=l:=(tab_eq rfl fun q hq=>by
 rw [List.getD_eq_getElem?_getD,List.getElem?_eq_getElem hq];rfl).symm
theorem tab_map (f:α→β):(tab m g).map f=tab m fun i=>f (g i):=by unfold tab;rw [List.map_map];rfl
theorem map_tab (f:α→β) (d:α) (l:List α):l.map f=tab l.length fun i=>f (l.getD i d):=by
 have:=congrArg (List.map f) (tab_of d l)
 rw [tab_map] at this
 exact this.symm
theorem tab_rep:List.replicate m x=tab m fun _=>x:=tab_eq (by simp) fun q hq=>by rw [List.getElem?_replicate,if_pos hq]
theorem tab_getD (d:α) (hq:q<m):(tab m g).getD q d=g q:=by rw [List.getD_eq_getElem?_getD,tab_get hq];rfl
end
def casR (u d:Rat) (f:Nat→Rat):Nat→Nat→Rat
 | 0,i=>f i
 | k+1,i=>d*casR u d f k i+u*casR u d f k (i+1)
def casI (u d:Rat) (f:Nat→Rat) (n s i:Nat) (q:Nat):Rat:=if q<i then casR u d f (s+1) q else if q+s≤n then casR u d f s q else casR u d f (n-q) q
section
variable {u d z s:Rat} {f g:Nat→Rat} {n k i q t:Nat}
theorem casI_start:tab (n+1) (casI u d f n 0 0)=tab (n+1) f:=tab_congr fun q hq=>by unfold casI;rw [if_neg (by omega),if_pos (by omega)];rfl
theorem casI_step (h:k<n):tab (n+1) (casI u d f n k (n-k))=tab (n+1) (casI u d f n (k+1) 0):=tab_congr fun q hq=>by
 unfold casI
 rw [if_neg (Nat.not_lt_zero q)]
 by_cases h1:q<n-k
 ·rw [if_pos h1,if_pos (by omega)]
 ·rw [if_neg h1]
  by_cases h2:q+k≤n
  ·rw [if_pos h2,if_neg (by omega),show n-q=k by omega]
  ·rw [if_neg h2,if_neg (by omega)]
theorem casI_end:tab (n+1) (casI u d f n n 0)=tab (n+1) fun q=>casR u d f (n-q) q:=tab_congr fun q hq=>by
 unfold casI
 rw [if_neg (Nat.not_lt_zero q)]
 by_cases h2:q+n≤n
 ·rw [if_pos h2]
  have:q=0:=by omega
  subst this
  rfl
 ·rw [if_neg h2]
theorem casI_set (h:i+k<n) (hx:s=d*casR u d f k i+u*casR u d f k (i+1)):(tab (n+1) (casI u d f n k i)).set i s=tab (n+1) (casI u d f n k (i+1)):=
 tab_set (by omega) (by unfold casI;rw [if_pos (by omega),hx];rfl) fun q hq hqi=>by
  unfold casI
  by_cases h1:q<i
  ·rw [if_pos h1,if_pos (by omega)]
  ·rw [if_neg h1,if_neg (by omega)]
theorem casI_at (h:q+k≤n) (hi:i≤q):casI u d f n k i q=casR u d f k q:=by
 unfold casI
 rw [if_neg (by omega),if_pos h]
theorem casR_congr: ∀ {k i:Nat},(∀j,j≤i+k→f j=g j)→casR u d f k i=casR u d g k i
 | 0,i,h=>h i (by omega)
 | k+1,i,h=>by
   unfold casR
   rw [casR_congr (k:=k) (i:=i) fun j hj=>h j (by omega),casR_congr (k:=k) (i:=i+1) fun j hj=>h j (by omega)]
theorem casR_scale (u d s z:Rat) (f:Nat→Rat): ∀(k i:Nat),casR (u*z) (d*z) (fun i=>s*f i) k i=s*z^k*casR u d f k i
 | 0,i=>by show s*f i=s*z^0*f i;rw [Rat.pow_zero,Rat.mul_one]
 | k+1,i=>by
   show d*z*casR (u*z) (d*z) _ k i+u*z*casR (u*z) (d*z) _ k (i+1)=s*z^(k+1)*(d*casR u d f k i+u*casR u d f k (i+1))
   rw [casR_scale u d s z f k i,casR_scale u d s z f k (i+1),Rat.pow_succ]
   grind
end
theorem rat_den (x:Rat):x*((x.den:Int):Rat)=((x.num:Int):Rat):=by
 have h0:((x.den:Int):Rat)≠0:=by
  intro h
  have:x.den=0:=by exact_mod_cast h
  exact x.den_nz this
 have h:=Rat.mkRat_self x
 rw [Rat.mkRat_eq_div] at h
 rw [←Rat.intCast_natCast] at h
 generalize ((x.den:Int):Rat)=d at*
 generalize ((x.num:Int):Rat)=m at*
 rw [←h]
 grind
theorem Sz.pow {a E:Nat} (h:Sz a E): ∀k:Nat,Sz (k*a+1) (E^k)
 | 0=>by rw [Nat.pow_zero];exact length_toL_le _ _ (by rw [Nat.zero_mul,Nat.zero_add];decide)
 | k+1=>by
   rw [Nat.pow_succ]
   exact (Sz.mul (Sz.pow h k) h).mono (by rw [Nat.succ_mul];omega)
def IB (D B:Nat) (x:Rat):Prop:= ∃k:Int,x*((D:Int):Rat)=(k:Rat)∧k.natAbs≤B
theorem IB.rsz {D B J:Nat} {x:Rat} (h:IB D B x) (hD:0<D) (h1:Sz J D) (h2:Sz J B):RSz J x:=by
 obtain ⟨k,hk,hb⟩:=h
 have h0:((D:Int):Rat)≠0:=by
  intro h
  have:(D:Int)=0:=by exact_mod_cast h
  omega
 have e:x=mkRat k D:=by
  rw [Rat.mkRat_eq_div,←hk,Rat.intCast_natCast]
  rw [Rat.intCast_natCast] at h0
  grind
 rw [e]
 exact RSz.of_mkRat (h2.le hb) h1 (by omega)
theorem IB.mono {D B B':Nat} {x:Rat} (h:IB D B x) (hb:B≤B'):IB D B' x:=by
 obtain ⟨k,h1,h2⟩:=h
 exact ⟨k,h1,Nat.le_trans h2 hb⟩
theorem natAbs_comb (a b c d:Int):(a*b+c*d).natAbs≤a.natAbs*b.natAbs+c.natAbs*d.natAbs:=by
 rw [←Int.natAbs_mul,←Int.natAbs_mul]
 exact Int.natAbs_add_le _ _
theorem casR_ib {u d:Rat} {f:Nat→Rat} {D B E U V n:Nat} (hf: ∀i,i≤n→IB D B (f i)) (hu:IB E U u) (hd:IB E V d): ∀(k i:Nat),k+i≤n→IB (D*E^k) (B*(U+V)^k) (casR u d f k i)
 | 0,i,h=>by rw [Nat.pow_zero,Nat.pow_zero,Nat.mul_one,Nat.mul_one];exact hf i (by omega)
 | k+1,i,h=>by
   obtain ⟨a,ha,hab⟩:=casR_ib hf hu hd k i (by omega)
   obtain ⟨b,hb,hbb⟩:=casR_ib hf hu hd k (i+1) (by omega)
   obtain ⟨p,hp,hpb⟩:=hu
   obtain ⟨q,hq,hqb⟩:=hd
   refine ⟨q*a+p*b,?_,?_⟩
   ·have e:((D*E^(k+1):Nat):Int)=(D*E^k:Nat)*(E:Nat):=by rw [Nat.pow_succ,←Nat.mul_assoc,Int.natCast_mul]
    show (d*casR u d f k i+u*casR u d f k (i+1))*(((D*E^(k+1):Nat):Int):Rat)=_
    rw [e,Rat.intCast_mul,Rat.intCast_add,Rat.intCast_mul,Rat.intCast_mul,←ha,←hb,←hp,←hq]
    grind
   ·refine Nat.le_trans (natAbs_comb _ _ _ _) ?_
    have h1:=Nat.mul_le_mul hqb hab
    have h2:=Nat.mul_le_mul hpb hbb
    rw [Nat.pow_succ]
    have:B*((U+V)^k*(U+V))=V*(B*(U+V)^k)+U*(B*(U+V)^k):=by
     rw [←Nat.mul_assoc,Nat.mul_add,Nat.mul_comm V,Nat.mul_comm U,Nat.add_comm]
    omega
def denQ (x:Rat):Rat:=((x.den:Int):Rat)
theorem denQ_pos (x:Rat):0<denQ x:=by
 unfold denQ
 have h:(0:Int)<(x.den:Int):=by have:=x.den_pos;omega
 have:=Rat.intCast_lt_intCast.2 h
 simpa using this
def whS:Rat→List Rat→Rat
 | s,[]=>s
 | s,r::l=>whS (s*denQ (s*r)) l
theorem den_dvd {x:Rat} {k:Nat} {z:Int} (hk:0<k) (h:x*((k:Int):Rat)=(z:Rat)):x.den∣k:=by
 have h0:((x.den:Int):Rat)≠0:=by have:=denQ_pos x;unfold denQ at this;grind
 have h1:x*((x.den:Int):Rat)=((x.num:Int):Rat):=rat_den _
 have h2:((x.num*k:Int):Rat)=((z*x.den:Int):Rat):=by
  rw [Rat.intCast_mul,Rat.intCast_mul,←h1,←h]
  grind
 have h3:x.num*k=z*x.den:=Rat.intCast_inj.1 h2
 have h4:x.den∣x.num.natAbs*k:=by
  refine ⟨z.natAbs,?_⟩
  have:=congrArg Int.natAbs h3
  rw [Int.natAbs_mul,Int.natAbs_mul] at this
  simpa [Nat.mul_comm] using this
 exact (Nat.Coprime.symm x.reduced).dvd_of_dvd_mul_left h4
theorem den_mul_int (m:Nat) (r:Rat):(((m:Int):Rat)*r).den∣r.den:=by
 have h1:r*((r.den:Int):Rat)=((r.num:Int):Rat):=rat_den _
 refine den_dvd r.den_pos (z:=m*r.num) ?_
 rw [Rat.intCast_mul,←h1]
 grind
theorem rsz_nat {a m:Nat} (h:Sz a m) (h1:1≤a):RSz a ((m:Int):Rat):=by
 have e:((m:Int):Rat)=mkRat m 1:=by rw [Rat.mkRat_one]
 rw [e]
 exact RSz.of_mkRat (by simpa using h) (length_toL_le _ _ (by
  have:(4294967296:Nat)^a≥4294967296^1:=Nat.pow_le_pow_right (by decide) h1
  omega)) (by decide)
theorem whS_step {m a j:Nat} {r:Rat} (hm:0<m) (ha:Sz a m) (hr:RSz j r): ∃n:Nat,0<n∧((m:Int):Rat)*denQ (((m:Int):Rat)*r)=((n:Int):Rat)∧Sz (a+j) n:=by
 have hd:=den_mul_int m r
 refine ⟨m*(((m:Int):Rat)*r).den,Nat.mul_pos hm (Rat.den_pos _),?_,ha.mul (hr.2.le (Nat.le_of_dvd r.den_pos hd))⟩
 unfold denQ
 rw [Int.natCast_mul,Rat.intCast_mul]
theorem whS_spec {j:Nat} : ∀(l:List Rat) (m a:Nat),0<m→Sz a m→(∀r∈l,RSz j r)→ ∃M:Nat,0<M∧m∣M∧whS ((m:Int):Rat) l=((M:Int):Rat)∧Sz (a+l.length*j) M∧ ∀r∈l,∃z:Int,((M:Int):Rat)*r=(z:Rat)
 | [],m,a,hm,ha,_=>⟨m,hm,Nat.dvd_refl _,rfl,by simpa using ha,fun r hr=>by cases hr⟩
 | r::l,m,a,hm,ha,hj=>by
   have hd:=den_mul_int m r
   obtain ⟨e,he⟩: ∃e,e=(((m:Int):Rat)*r).den:=⟨_,rfl⟩
   have hep:0<e:=by rw [he];exact Rat.den_pos _
   have hes:Sz j e:=(hj r List.mem_cons_self).2.le (Nat.le_of_dvd r.den_pos (he▸hd))
   obtain ⟨M,h1,h2,h3,h4,h5⟩:=whS_spec (j:=j) l (m*e) (a+j) (Nat.mul_pos hm hep) (ha.mul hes) fun r hr=>hj r (List.mem_cons_of_mem _ hr)
   have e1:((m:Int):Rat)*denQ (((m:Int):Rat)*r)=(((m*e:Nat):Int):Rat):=by
    unfold denQ
    rw [←he,Int.natCast_mul,Rat.intCast_mul]
   refine ⟨M,h1,Nat.dvd_trans (Nat.dvd_mul_right m e) h2,?_,h4.mono (by rw [List.length_cons,Nat.succ_mul];omega),fun x hx=>?_⟩
   ·show whS (((m:Int):Rat)*denQ (((m:Int):Rat)*r)) l=_
    rw [e1];exact h3
   ·rcases List.mem_cons.1 hx with rfl | hx
    ·obtain ⟨c,hc⟩:=h2
     have h6:((m:Int):Rat)*x*((e:Int):Rat)=(((((m:Int):Rat)*x).num:Int):Rat):=by rw [he];exact rat_den _
     refine ⟨c*(((m:Int):Rat)*x).num,?_⟩
     rw [hc,Rat.intCast_mul,←h6,Int.natCast_mul,Int.natCast_mul,Rat.intCast_mul,Rat.intCast_mul]
     grind
    ·exact h5 x hx
end Go.Proofs.YtnkobfcnflphkaaGreatDoor
namespace Go.Proofs.YtnkobfcnflphkaaGreatDoor
set_option linter.unusedVariables false
set_option linter.unusedSimpArgs false
def bin:Nat→Nat→Nat
 | _,0=>1
 | 0,_+1=>0
 | n+1,k+1=>bin n k+bin n (k+1)
theorem bin_zero (n:Nat):bin n 0=1:=by cases n<;>rfl
theorem bin_over: ∀ {n k:Nat},n<k→bin n k=0
 | 0,k+1,_=>rfl
 | n+1,k+1,h=>by show bin n k+bin n (k+1)=0;rw [bin_over (by omega),bin_over (by omega)]
theorem bin_self: ∀n:Nat,bin n n=1
 | 0=>rfl
 | n+1=>by show bin n n+bin n (n+1)=1;rw [bin_self n,bin_over (by omega)]
theorem bin_pos: ∀ {n k:Nat},k≤n→0<bin n k
 | n,0,_=>by rw [bin_zero];exact Nat.zero_lt_one
 | n+1,k+1,h=>by show 0<bin n k+bin n (k+1);have:=bin_pos (n:=n) (k:=k) (by omega);omega
theorem bin_le: ∀n k:Nat,bin n k≤2^n
 | n,0=>by rw [bin_zero];exact Nat.one_le_two_pow
 | 0,k+1=>by show 0≤_;exact Nat.zero_le _
 | n+1,k+1=>by
   show bin n k+bin n (k+1)≤_
   have h1:=bin_le n k
   have h2:=bin_le n (k+1)
   rw [Nat.pow_succ];omega
theorem bin_step: ∀ {n k:Nat},k≤n→bin n (k+1)*(k+1)=bin n k*(n-k)
 | 0,k,h=>by
   have:k=0:=by omega
   subst this
   rfl
 | n+1,0,_=>by
   show (bin n 0+bin n (0+1))*(0+1)=bin (n+1) 0*(n+1-0)
   have h1:=bin_step (n:=n) (k:=0) (Nat.zero_le _)
   simp only [bin_zero] at*
   omega
 | n+1,k+1,h=>by
   show (bin n (k+1)+bin n (k+1+1))*(k+1+1)=(bin n k+bin n (k+1))*(n+1-(k+1))
   have h1:=bin_step (n:=n) (k:=k) (by omega)
   rw [show n+1-(k+1)=n-k by omega,Nat.add_mul,Nat.add_mul,←h1]
   by_cases h0:k=n
   ·subst h0
    rw [bin_over (show k<k+1 by omega),bin_over (show k<k+1+1 by omega)];simp
   ·have h2:=bin_step (n:=n) (k:=k+1) (by omega)
    rw [h2,←Nat.mul_add,←Nat.mul_add]
    congr 1
    omega
abbrev binQ (n k:Nat):Rat:=((bin n k:Int):Rat)
theorem binQ_ne {n k:Nat} (h:k≤n):binQ n k≠0:=by
 intro h0
 have h1:((bin n k:Int):Rat)=((0:Int):Rat):=h0
 have:=Rat.intCast_inj.1 h1
 have:=bin_pos h
 omega
def convR (a b:Nat→Rat) (n:Nat):Nat→Nat→Rat
 | 0,_=>0
 | i+1,k=>convR a b n i k+(if i≤k∧k≤i+n then a i*b (k-i) else 0)
def convI (a b:Nat→Rat) (n i j:Nat) (k:Nat):Rat:=convR a b n i k+(if i≤k∧k<i+j then a i*b (k-i) else 0)
section
variable {a b:Nat→Rat} {m n i j k N:Nat}
theorem convI_start:tab N (convI a b n i 0)=tab N (convR a b n i):=tab_congr fun k _=>by
 unfold convI
 rw [if_neg (by omega)]
 exact Rat.add_zero _
theorem convI_end:tab N (convI a b n i (n+1))=tab N (convR a b n (i+1)):=tab_congr fun k _=>by
 unfold convI
 show _=convR a b n i k+_
 by_cases h:i≤k∧k≤i+n
 ·rw [if_pos h,if_pos ⟨h.1,by omega⟩]
 ·rw [if_neg h,if_neg (fun hh=>h ⟨hh.1,by omega⟩)]
theorem convI_at:convI a b n i j (i+j)=convR a b n i (i+j):=by
 unfold convI
 rw [if_neg (by omega)]
 exact Rat.add_zero _
theorem convI_set {x:Rat} (h:i+j<N) (hx:x=convI a b n i j (i+j)+a i*b j):(tab N (convI a b n i j)).set (i+j) x=tab N (convI a b n i (j+1)):=
 tab_set h (by
  rw [hx,convI_at]
  unfold convI
  rw [if_pos ⟨by omega,by omega⟩,show i+j-i=j by omega]) fun q hq hqi=>by
  unfold convI
  congr 1
  by_cases h:i≤q∧q<i+j
  ·rw [if_pos h,if_pos ⟨h.1,by omega⟩]
  ·rw [if_neg h,if_neg (fun hh=>h ⟨hh.1,by omega⟩)]
theorem convR_scale (s t:Rat): ∀(i k:Nat),convR (fun i=>s*a i) (fun i=>t*b i) n i k=s*t*convR a b n i k
 | 0,k=>by show (0:Rat)=s*t*0;grind
 | i+1,k=>by
   show convR _ _ n i k+_=s*t*(convR a b n i k+_)
   rw [convR_scale s t i k]
   split<;>grind
theorem convR_congr {a' b':Nat→Rat} : ∀ {i k:Nat},(∀q,q<i→a q=a' q)→(∀q,q≤n→b q=b' q)→convR a b n i k=convR a' b' n i k
 | 0,_,_,_=>rfl
 | i+1,k,h1,h2=>by
   show convR a b n i k+_=convR a' b' n i k+_
   rw [convR_congr (i:=i) (fun q hq=>h1 q (by omega)) h2]
   congr 1
   by_cases h:i≤k∧k≤i+n
   ·rw [if_pos h,if_pos h,h1 i (by omega),h2 (k-i) (by omega)]
   ·rw [if_neg h,if_neg h]
end
def difR (f:Nat→Rat):Nat→Nat→Rat
 | 0,i=>f i
 | k+1,i=>difR f k (i+1)-difR f k i
theorem difR_scale (s:Rat) (f:Nat→Rat): ∀(k i:Nat),difR (fun i=>s*f i) k i=s*difR f k i
 | 0,_=>rfl
 | k+1,i=>by
   show difR _ k (i+1)-difR _ k i=s*(difR f k (i+1)-difR f k i)
   rw [difR_scale s f k,difR_scale s f k]
   grind
def sumR (g:Nat→Rat):Nat→Rat
 | 0=>0
 | c+1=>sumR g c+g c
theorem sumR_congr {g h:Nat→Rat} : ∀ {c:Nat},(∀i,i<c→g i=h i)→sumR g c=sumR h c
 | 0,_=>rfl
 | c+1,hh=>by show sumR g c+g c=sumR h c+h c;rw [sumR_congr (c:=c) fun i hi=>hh i (by omega),hh c (by omega)]
theorem sumR_add (g h:Nat→Rat): ∀c:Nat,sumR (fun i=>g i+h i) c=sumR g c+sumR h c
 | 0=>by show (0:Rat)=0+0;grind
 | c+1=>by show sumR _ c+(g c+h c)=sumR g c+g c+(sumR h c+h c);rw [sumR_add g h c];grind
theorem sumR_front (g:Nat→Rat): ∀c:Nat,sumR g (c+1)=g 0+sumR (fun i=>g (i+1)) c
 | 0=>by show (0:Rat)+g 0=g 0+0;grind
 | c+1=>by
   show sumR g (c+1)+g (c+1)=g 0+(sumR (fun i=>g (i+1)) c+g (c+1))
   rw [sumR_front g c];grind
end Go.Proofs.YtnkobfcnflphkaaGreatDoor
namespace Go.Proofs.YtnkobfcnflphkaaGreatDoor
set_option linter.unusedVariables false
set_option linter.unusedSimpArgs false
def lowR (t:Rat) (f:Nat→Rat) (i:Nat):Rat:=casR t (1-t) f i 0
def uppR (t:Rat) (f:Nat→Rat) (n i:Nat):Rat:=casR t (1-t) f (n-i) i
def prtR (a b:Rat) (f:Nat→Rat) (n i:Nat):Rat:=lowR ((b-a)/(1-a)) (uppR a f n) i
theorem rat_pow_ne {z:Rat} (h:z≠0): ∀k:Nat,z^k≠0
 | 0=>by rw [Rat.pow_zero];decide
 | k+1=>by
   rw [Rat.pow_succ]
   have:=rat_pow_ne h k
   intro h0
   rcases Rat.mul_eq_zero.1 h0 with h1 | h1
   ·exact this h1
   ·exact h h1
theorem rat_mul_ne {x y:Rat} (h:x≠0) (k:y≠0):x*y≠0:=fun h0=>by
 rcases Rat.mul_eq_zero.1 h0 with h1 | h1
 ·exact h h1
 ·exact k h1
theorem mul_div_self {x y:Rat} (h:x≠0):x*y/x=y:=by grind
section
variable {s z t u d:Rat} {f:Nat→Rat} {n i:Nat}
theorem cas_low (hs:s≠0) (hz:z≠0) (hu:u=t*z) (hd:d=z-u):casR u d (fun i=>s*f i) i 0/(s*z^i)=lowR t f i:=by
 have e:d=(1-t)*z:=by rw [hd,hu];grind
 rw [e,hu,casR_scale]
 exact mul_div_self (rat_mul_ne hs (rat_pow_ne hz i))
theorem cas_upp (hs:s≠0) (hz:z≠0) (hu:u=t*z) (hd:d=z-u):casR u d (fun i=>s*f i) (n-i) i/(s*z^(n-i))=uppR t f n i:=by
 have e:d=(1-t)*z:=by rw [hd,hu];grind
 rw [e,hu,casR_scale]
 exact mul_div_self (rat_mul_ne hs (rat_pow_ne hz _))
end
theorem powQ_split (z:Rat) {n i:Nat} (h:i≤n):z^(n-i)*z^i=z^n:=by
 obtain ⟨k,rfl⟩: ∃k,n=k+i:=⟨n-i,by omega⟩
 rw [Nat.add_sub_cancel]
 induction i with
 | zero=>rw [Rat.pow_zero,Rat.mul_one];rfl
 | succ i ih=>
   rw [Rat.pow_succ,←Rat.mul_assoc,ih (by omega),show k+(i+1)=(k+i)+1 by omega,Rat.pow_succ]
theorem part_eq {s E a b e0 e1:Rat} {f:Nat→Rat} {n k:Nat} (hs:s≠0) (hE:E≠0) (ha:a≠1) (h0:e0=E*a) (h1:e1=E*b) (hk:k≤n):
  casR (e1-e0) (E-e1) (fun i=>casR e0 (E-e0) (fun i=>s*f i) (n-i) i*E^i) k 0/(s*E^n*(E-e0)^k)=prtR a b f n k:=by
 have h1a:(1:Rat)-a≠0:=by grind
 have er:E-e0=(1-a)*E:=by rw [h0];grind
 have hz:E-e0≠0:=by rw [er];exact rat_mul_ne h1a hE
 have c1: ∀i,i≤n→casR e0 (E-e0) (fun i=>s*f i) (n-i) i*E^i=s*E^n*uppR a f n i:=fun i hi=>by
  rw [er,show e0=a*E by rw [h0];grind,casR_scale]
  unfold uppR
  rw [←powQ_split E hi]
  grind
 rw [casR_congr (g:=fun i=>s*E^n*uppR a f n i) fun j hj=>c1 j (by omega)]
 unfold prtR lowR
 have hu:e1-e0=(b-a)/(1-a)*(E-e0):=by rw [er,h0,h1];grind
 have hd:E-e1=(1-(b-a)/(1-a))*(E-e0):=by rw [er,h1];grind
 rw [hu,hd,casR_scale]
 exact mul_div_self (rat_mul_ne (rat_mul_ne hs (rat_pow_ne hE n)) (rat_pow_ne hz k))
end Go.Proofs.YtnkobfcnflphkaaGreatDoor
namespace Go.Proofs.YtnkobfcnflphkaaGreatDoor
set_option linter.unusedVariables false
set_option linter.unusedSimpArgs false
theorem bin_low {n k:Nat} (h:k≤n):bin (n+1) (k+1)*(k+1)=bin n k*(n+1):=by
 show (bin n k+bin n (k+1))*(k+1)=_
 rw [Nat.add_mul,bin_step h,←Nat.mul_add]
 congr 1
 omega
theorem bin_high {n k:Nat} (h:k≤n+1):bin (n+1) k*(n+1-k)=bin n k*(n+1):=by
 rw [←bin_step (n:=n+1) (k:=k) h]
 by_cases h0:k≤n
 ·exact bin_low h0
 ·obtain rfl:k=n+1:=by omega
  rw [bin_over (show n+1<n+1+1 by omega),bin_over (show n<n+1 by omega)]
  simp
def liftR (f:Nat→Rat) (n i:Nat):Rat:=if i=0 then f 0 else if i=n then f (n-1) else f i+(f (i-1)-f i)*(((i:Int):Rat)/((n:Int):Rat))
theorem castQ {a b c d:Nat} (h:a*b=c*d):((a:Int):Rat)*((b:Int):Rat)=((c:Int):Rat)*((d:Int):Rat):=by
 rw [←Rat.intCast_mul,←Rat.intCast_mul,←Int.natCast_mul,←Int.natCast_mul,h]
theorem natQ_ne {n:Nat} (h:0<n):((n:Int):Rat)≠0:=fun h0=>by
 have h1:((n:Int):Rat)=((0:Int):Rat):=h0
 have:=Rat.intCast_inj.1 h1
 omega
theorem lift_weight (f:Nat→Rat) {N i:Nat} (h:i≤N+1):binQ (N+1) i*liftR f (N+1) i=(if i≤N then binQ N i*f i else 0)+(if 0<i then binQ N (i-1)*f (i-1) else 0):=by
 unfold liftR
 by_cases h0:i=0
 ·subst h0
  rw [if_pos rfl,if_pos (Nat.zero_le _),if_neg (Nat.lt_irrefl 0)]
  unfold binQ
  rw [bin_zero,bin_zero,Rat.add_zero]
 ·rw [if_neg h0,if_pos (show 0<i by omega)]
  obtain ⟨k,rfl⟩: ∃k,i=k+1:=⟨i-1,by omega⟩
  simp only [Nat.add_sub_cancel]
  by_cases h1:k+1=N+1
  ·have hk:k=N:=by omega
   subst hk
   rw [if_pos rfl,if_neg (by omega)]
   unfold binQ
   rw [bin_self,bin_self]
   grind
  ·rw [if_neg h1,if_pos (show k+1≤N by omega)]
   have e1:=castQ (bin_low (n:=N) (k:=k) (by omega))
   have e2:=castQ (bin_high (n:=N) (k:=k+1) (by omega))
   have h2:=natQ_ne (n:=N+1) (by omega)
   have e3:((((N+1-(k+1):Nat)):Int):Rat)=(((N+1:Nat):Int):Rat)-(((k+1:Nat):Int):Rat):=by
    rw [←Rat.intCast_sub]
    congr 1
    omega
   rw [e3] at e2
   unfold binQ
   generalize (((N+1:Nat):Int):Rat)=n at*
   generalize (((k+1:Nat):Int):Rat)=q at*
   generalize ((bin (N+1) (k+1):Int):Rat)=b at*
   generalize ((bin N k:Int):Rat)=c at*
   generalize ((bin N (k+1):Int):Rat)=d at*
   generalize f (k+1)=x at*
   generalize f k=y at*
   have e4:b*(q/n)=c:=by
    have:b*(q/n)=b*q/n:=by grind
    rw [this,e1];grind
   have e5:b*(1-q/n)=d:=by
    have:b*(1-q/n)=b*(n-q)/n:=by grind
    rw [this,e2];grind
   have:b*(x+(y-x)*(q/n))=b*(1-q/n)*x+b*(q/n)*y:=by grind
   rw [this,e4,e5]
def liftN (f:Nat→Rat) (N:Nat):Nat→Nat→Rat
 | 0=>f
 | d+1=>liftR (liftN f N d) (N+d+1)
def onesR (a:Nat→Rat) (d:Nat):Nat→Nat→Rat
 | 0,_=>0
 | i+1,k=>onesR a d i k+(if i≤k then a i*binQ d (k-i) else 0)
theorem ones_conv (a:Nat→Rat) (d:Nat): ∀i k:Nat,convR a (binQ d) d i k=onesR a d i k
 | 0,_=>rfl
 | i+1,k=>by
   show convR a (binQ d) d i k+_=onesR a d i k+_
   rw [ones_conv a d i k]
   congr 1
   by_cases h:i≤k
   ·by_cases h2:k≤i+d
    ·rw [if_pos ⟨h,h2⟩,if_pos h]
    ·rw [if_neg (fun hh=>h2 hh.2),if_pos h]
     have:binQ d (k-i)=0:=by unfold binQ;rw [bin_over (by omega)];rfl
     rw [this,Rat.mul_zero]
   ·rw [if_neg (fun hh=>h hh.1),if_neg h]
theorem ones_step (a:Nat→Rat) (d:Nat): ∀i k:Nat,onesR a (d+1) i k=onesR a d i k+(if 0<k then onesR a d i (k-1) else 0)
 | 0,k=>by show (0:Rat)=0+_;split<;>grind [onesR]
 | i+1,k=>by
   show onesR a (d+1) i k+_=onesR a d i k+_+(if 0<k then onesR a d i (k-1)+_ else 0)
   rw [ones_step a d i k]
   have e:(if i≤k then a i*binQ (d+1) (k-i) else 0)=(if i≤k then a i*binQ d (k-i) else 0)+(if 0<k then (if i≤k-1 then a i*binQ d (k-1-i) else 0) else 0):=by
    by_cases h:i≤k
    ·rw [if_pos h,if_pos h]
     by_cases h2:i=k
     ·subst h2
      rw [Nat.sub_self]
      have:(if 0<i then (if i≤i-1 then a i*binQ d (i-1-i) else 0) else 0)=(0:Rat):=by
       by_cases h3:0<i
       ·rw [if_pos h3,if_neg (by omega)]
       ·rw [if_neg h3]
      rw [this,Rat.add_zero]
      unfold binQ
      rw [bin_zero,bin_zero]
     ·rw [if_pos (show 0<k by omega),if_pos (show i≤k-1 by omega)]
      obtain ⟨q,hq⟩: ∃q,k-i=q+1:=⟨k-i-1,by omega⟩
      rw [hq,show k-1-i=q by omega]
      have:binQ (d+1) (q+1)=binQ d q+binQ d (q+1):=by
       unfold binQ
       show ((((bin d q+bin d (q+1):Nat):Nat):Int):Rat)=_
       rw [Int.natCast_add,Rat.intCast_add]
      rw [this];grind
    ·rw [if_neg h,if_neg h]
     have:(if 0<k then (if i≤k-1 then a i*binQ d (k-1-i) else 0) else 0)=(0:Rat):=by
      by_cases h3:0<k
      ·rw [if_pos h3,if_neg (by omega)]
      ·rw [if_neg h3]
     rw [this];grind
   rw [e]
   by_cases h3:0<k
   ·simp only [if_pos h3];grind
   ·simp only [if_neg h3];grind
theorem ones_zero (a:Nat→Rat): ∀i k:Nat,onesR a 0 i k=if k<i then a k else 0
 | 0,k=>by rw [if_neg (Nat.not_lt_zero k)];rfl
 | i+1,k=>by
   show onesR a 0 i k+_=_
   rw [ones_zero a i k]
   have b0: ∀q,binQ 0 q=if q=0 then 1 else 0:=fun q=>by
    cases q with
    | zero=>rfl
    | succ q=>rfl
   rw [b0]
   by_cases h:k<i
   ·rw [if_pos h,if_neg (show ¬i≤k by omega),if_pos (by omega)];grind
   ·rw [if_neg h]
    by_cases h2:k=i
    ·subst h2
     rw [if_pos (Nat.le_refl _),Nat.sub_self,if_pos rfl,if_pos (by omega)];grind
    ·rw [if_pos (show i≤k by omega),if_neg (show ¬k-i=0 by omega),if_neg (by omega)];grind
theorem lift_ones (f:Nat→Rat) (N:Nat): ∀d k:Nat,k≤N+d→binQ (N+d) k*liftN f N d k=onesR (fun i=>binQ N i*f i) d (N+1) k
 | 0,k,h=>by
   rw [ones_zero,if_pos (by omega)]
   rfl
 | d+1,k,h=>by
   show binQ (N+d+1) k*liftR (liftN f N d) (N+d+1) k=_
   rw [lift_weight _ (by omega),ones_step]
   congr 1
   ·by_cases h1:k≤N+d
    ·rw [if_pos h1];exact lift_ones f N d k h1
    ·rw [if_neg h1]
     have key: ∀i k,i+d≤k→onesR (fun i=>binQ N i*f i) d i k=0:=by
      intro i
      induction i with
      | zero=>intro k _;rfl
      | succ i ih=>
        intro k hk
        show onesR _ d i k+_=0
        rw [ih k (by omega),if_pos (by omega)]
        have:binQ d (k-i)=0:=by unfold binQ;rw [bin_over (by omega)];rfl
        rw [this];grind
     exact (key (N+1) k (by omega)).symm
   ·by_cases h1:0<k
    ·rw [if_pos h1,if_pos h1];exact lift_ones f N d (k-1) (by omega)
    ·rw [if_neg h1,if_neg h1]
end Go.Proofs.YtnkobfcnflphkaaGreatDoor
namespace Go.Proofs.YtnkobfcnflphkaaGreatDoor
set_option linter.unusedVariables false
set_option linter.unusedSimpArgs false
def dfI (f:Nat→Rat) (o i q:Nat):Rat:=if i<q then difR f (o+1) (q-(o+1)) else if q≤o then difR f q 0 else difR f o (q-o)
section
variable {f g:Nat→Rat} {n o i q:Nat} {x:Rat}
theorem dfI_start:tab (n+1) (dfI f 0 n)=tab (n+1) f:=tab_congr fun q hq=>by
 unfold dfI
 rw [if_neg (by omega)]
 by_cases h:q≤0
 ·rw [if_pos h,show q=0 by omega];rfl
 ·rw [if_neg h];rfl
theorem dfI_next:tab (n+1) (dfI f o o)=tab (n+1) (dfI f (o+1) n):=tab_congr fun q hq=>by
 unfold dfI
 rw [if_neg (show ¬n<q by omega)]
 by_cases h:o<q
 ·rw [if_pos h]
  by_cases h2:q≤o+1
  ·rw [if_pos h2,show q=o+1 by omega,Nat.sub_self]
  ·rw [if_neg h2]
 ·rw [if_neg h,if_pos (by omega),if_pos (by omega)]
theorem dfI_end:tab (n+1) (dfI f n n)=tab (n+1) fun q=>difR f q 0:=tab_congr fun q hq=>by
 unfold dfI
 rw [if_neg (by omega),if_pos (by omega)]
theorem dfI_at (h:o<i):dfI f o i i=difR f o (i-o):=by
 unfold dfI
 rw [if_neg (by omega),if_neg (by omega)]
theorem dfI_pre (h:o<i):dfI f o i (i-1)=difR f o (i-1-o):=by
 unfold dfI
 rw [if_neg (by omega)]
 by_cases h2:i-1≤o
 ·rw [if_pos h2,show i-1=o by omega,Nat.sub_self]
 ·rw [if_neg h2]
theorem dfI_set (h:o<i) (hi:i≤n) (hx:x=dfI f o i i-dfI f o i (i-1)):(tab (n+1) (dfI f o i)).set i x=tab (n+1) (dfI f o (i-1)):=
 tab_set (by omega) (by
  rw [hx,dfI_at h,dfI_pre h]
  unfold dfI
  rw [if_pos (by omega)]
  show difR f o (i-(o+1)+1)-difR f o (i-(o+1))=_
  rw [show i-(o+1)+1=i-o by omega,show i-(o+1)=i-1-o by omega]) fun q hq hqi=>by
  unfold dfI
  by_cases h1:i<q
  ·rw [if_pos h1,if_pos (by omega)]
  ·rw [if_neg h1,if_neg (by omega)]
end
def toPw (f:Nat→Rat) (n k:Nat):Rat:=binQ n k*difR f k 0
theorem toPw_scaled {s:Rat} {f:Nat→Rat} {n k:Nat} (hs:s≠0):difR (fun i=>s*f i) k 0*binQ n k/s=toPw f n k:=by
 rw [difR_scale]
 unfold toPw
 grind
end Go.Proofs.YtnkobfcnflphkaaGreatDoor
namespace Go.Proofs.YtnkobfcnflphkaaGreatDoor
set_option linter.unusedVariables false
set_option linter.unusedSimpArgs false
section
variable {f:Nat→Rat} {n:Nat} {t:Rat}
end
section
variable {a b:Rat} {e:Int}
end
end Go.Proofs.YtnkobfcnflphkaaGreatDoor
namespace Go.Proofs.YtnkobfcnflphkaaGreatDoor
set_option linter.unusedVariables false
set_option linter.unusedSimpArgs false
theorem sumR_mul (s:Rat) (g:Nat→Rat): ∀c:Nat,sumR (fun i=>s*g i) c=s*sumR g c
 | 0=>by show (0:Rat)=s*0;grind
 | c+1=>by show sumR _ c+s*g c=s*(sumR g c+g c);rw [sumR_mul s g c];grind
theorem sumR_zero {g:Nat→Rat} : ∀ {c:Nat},(∀i,i<c→g i=0)→sumR g c=0
 | 0,_=>rfl
 | c+1,h=>by show sumR g c+g c=0;rw [sumR_zero (c:=c) fun i hi=>h i (by omega),h c (by omega)];grind
theorem sumR_more {g:Nat→Rat} {c:Nat} : ∀(d:Nat),(∀i,c≤i→i<c+d→g i=0)→sumR g (c+d)=sumR g c
 | 0,_=>rfl
 | d+1,h=>by show sumR g (c+d)+g (c+d)=_;rw [sumR_more d fun i h1 h2=>h i h1 (by omega),h (c+d) (by omega) (by omega)];grind
theorem sumR_ext {g h:Nat→Rat} {c d:Nat} (h1: ∀i,i<c→i<d→g i=h i) (h2: ∀i,d≤i→i<c→g i=0) (h3: ∀i,c≤i→i<d→h i=0):sumR g c=sumR h d:=by
 by_cases hc:c≤d
 ·obtain ⟨e,rfl⟩: ∃e,d=c+e:=⟨d-c,by omega⟩
  rw [sumR_more (g:=h) (c:=c) e h3]
  exact sumR_congr fun i hi=>h1 i hi (by omega)
 ·obtain ⟨e,rfl⟩: ∃e,c=d+e:=⟨c-d,by omega⟩
  rw [sumR_more (g:=g) (c:=d) e h2]
  exact sumR_congr fun i hi=>h1 i (by omega) hi
theorem sumR_shift {g:Nat→Rat} {i n c:Nat} (h:i+n+1≤c):sumR (fun k=>if i≤k∧k≤i+n then g (k-i) else 0) c=sumR g (n+1):=by
 induction i generalizing c with
 | zero=>exact sumR_ext (fun k h1 h2=>if_pos ⟨Nat.zero_le _,by omega⟩) (fun k h1 h2=>if_neg (by omega)) (fun k h1 h2=>by omega)
 | succ i ih=>
   obtain ⟨c,rfl⟩: ∃d,c=d+1:=⟨c-1,by omega⟩
   rw [sumR_front,if_neg (by omega),←ih (c:=c) (by omega)]
   have:sumR (fun k=>if i+1≤k+1∧k+1≤i+1+n then g (k+1-(i+1)) else 0) c=sumR (fun k=>if i≤k∧k≤i+n then g (k-i) else 0) c:=sumR_congr fun k hk=>by
    by_cases h:i≤k∧k≤i+n
    ·rw [if_pos h,if_pos (by omega),show k+1-(i+1)=k-i by omega]
    ·rw [if_neg h,if_neg (by omega)]
   rw [this];grind
theorem ratPow_add (z:Rat) (a:Nat): ∀b:Nat,z^(a+b)=z^a*z^b
 | 0=>by rw [Rat.pow_zero,Rat.mul_one];rfl
 | b+1=>by rw [←Nat.add_assoc,Rat.pow_succ,ratPow_add z a b,Rat.pow_succ,Rat.mul_assoc]
section
variable {u d t:Rat} {f g:Nat→Rat} {m n:Nat}
theorem casR_sum (u d:Rat) (f:Nat→Rat): ∀(k i:Nat),casR u d f k i=sumR (fun j=>binQ k j*d^(k-j)*u^j*f (i+j)) (k+1)
 | 0,i=>by
   show f i=0+((bin 0 0:Int):Rat)*d^(0-0)*u^0*f (i+0)
   have:((bin 0 0:Int):Rat)=1:=rfl
   rw [this,Nat.add_zero,Nat.sub_zero,Rat.pow_zero,Rat.pow_zero];grind
 | k+1,i=>by
   show d*casR u d f k i+u*casR u d f k (i+1)=_
   rw [casR_sum u d f k i,casR_sum u d f k (i+1),←sumR_mul,←sumR_mul]
   have e1:sumR (fun j=>d*(binQ k j*d^(k-j)*u^j*f (i+j))) (k+1)=sumR (fun j=>d*(binQ k j*d^(k-j)*u^j*f (i+j))) (k+1+1):=by
    show _=sumR _ (k+1)+d*(binQ k (k+1)*_*_*_)
    have:binQ k (k+1)=0:=by unfold binQ;rw [bin_over (by omega)];rfl
    rw [this];grind
   rw [e1,sumR_front,sumR_front (fun j=>binQ (k+1) j*d^(k+1-j)*u^j*f (i+j)),Rat.add_assoc,←sumR_add]
   congr 1
   ·have:binQ (k+1) 0=binQ k 0:=by unfold binQ;rw [bin_zero,bin_zero]
    rw [this,Nat.sub_zero,Nat.sub_zero,Rat.pow_succ];grind
   ·refine sumR_congr fun j hj=>?_
    have e3:binQ (k+1) (j+1)=binQ k j+binQ k (j+1):=by
     unfold binQ
     show ((((bin k j+bin k (j+1):Nat):Nat):Int):Rat)=_
     rw [Int.natCast_add,Rat.intCast_add]
    rw [e3,show k+1-(j+1)=k-j by omega,show i+1+j=i+(j+1) by omega,Rat.pow_succ]
    by_cases hk:j=k
    ·subst hk
     have:binQ j (j+1)=0:=by unfold binQ;rw [bin_over (by omega)];rfl
     rw [this];grind
    ·have e4:d^(k-j)=d^(k-(j+1))*d:=by rw [←Rat.pow_succ,show k-(j+1)+1=k-j by omega]
     rw [e4]
     generalize d^(k-(j+1))=z
     grind
theorem casR_one (h:d+u=1): ∀(k i:Nat),casR u d (fun _=>1) k i=1
 | 0,_=>rfl
 | k+1,i=>by show d*casR u d _ k i+u*casR u d _ k (i+1)=1;rw [casR_one h k,casR_one h k];grind
theorem casR_add (u d:Rat) (f g:Nat→Rat): ∀(k i:Nat),casR u d (fun i=>f i+g i) k i=casR u d f k i+casR u d g k i
 | 0,_=>rfl
 | k+1,i=>by show d*casR u d _ k i+u*casR u d _ k (i+1)=(d*_+u*_)+(d*_+u*_);rw [casR_add u d f g k,casR_add u d f g k];grind
def homR (u d:Rat) (n:Nat) (w:Nat→Rat):Rat:=sumR (fun k=>w k*(d^(n-k)*u^k)) (n+1)
theorem hom_cas:homR u d n (fun i=>binQ n i*f i)=casR u d f n 0:=by
 rw [casR_sum]
 refine sumR_congr fun k hk=>?_
 rw [Nat.zero_add];grind
theorem hom_congr {v w:Nat→Rat} (h: ∀k,k≤n→v k=w k):homR u d n v=homR u d n w:=sumR_congr fun k hk=>by rw [h k (by omega)]
theorem hom_conv {a b:Nat→Rat} : ∀i,i≤m+1→homR u d (m+n) (convR a b n i)=sumR (fun q=>a q*(d^(m-q)*u^q)) i*homR u d n b
 | 0,_=>by
   show sumR (fun k=>0*_) _=0*_
   rw [sumR_zero fun k _=>Rat.zero_mul _];grind
 | i+1,h=>by
   show sumR (fun k=>(convR a b n i k+(if i≤k∧k≤i+n then a i*b (k-i) else 0))*(d^(m+n-k)*u^k)) (m+n+1)=(sumR _ i+a i*(d^(m-i)*u^i))*homR u d n b
   have e1:sumR (fun k=>(convR a b n i k+(if i≤k∧k≤i+n then a i*b (k-i) else 0))*(d^(m+n-k)*u^k)) (m+n+1)=homR u d (m+n) (convR a b n i)+sumR (fun k=>if i≤k∧k≤i+n then a i*(d^(m-i)*u^i)*(b (k-i)*(d^(n-(k-i))*u^(k-i))) else 0) (m+n+1):=by
    unfold homR
    rw [←sumR_add]
    refine sumR_congr fun k hk=>?_
    by_cases h2:i≤k∧k≤i+n
    ·rw [if_pos h2,if_pos h2]
     have e2:d^(m+n-k)=d^(m-i)*d^(n-(k-i)):=by rw [←ratPow_add,show m-i+(n-(k-i))=m+n-k by omega]
     have e3:u^k=u^i*u^(k-i):=by rw [←ratPow_add,show i+(k-i)=k by omega]
     rw [e2,e3]
     grind
    ·rw [if_neg h2,if_neg h2];grind
   rw [e1,hom_conv i (by omega),sumR_shift (g:=fun j=>a i*(d^(m-i)*u^i)*(b j*(d^(n-j)*u^j))) (by omega),sumR_mul]
   unfold homR
   grind
theorem cas_mul (f g:Nat→Rat):casR u d (fun k=>convR (fun i=>binQ m i*f i) (fun i=>binQ n i*g i) n (m+1) k/binQ (m+n) k) (m+n) 0=casR u d f m 0*casR u d g n 0:=by
 rw [←hom_cas,←hom_cas,←hom_cas]
 have e:homR u d (m+n) (fun i=>binQ (m+n) i*(convR (fun i=>binQ m i*f i) (fun i=>binQ n i*g i) n (m+1) i/binQ (m+n) i))=homR u d (m+n) (convR (fun i=>binQ m i*f i) (fun i=>binQ n i*g i) n (m+1)):=hom_congr fun k hk=>by
  have:=binQ_ne hk
  generalize binQ (m+n) k=b at*
  generalize convR (fun i=>binQ m i*f i) (fun i=>binQ n i*g i) n (m+1) k=x
  grind
 rw [e,hom_conv (m+1) (Nat.le_refl _)]
 rfl
theorem cas_lift (h:d+u=1) (f:Nat→Rat) (N e:Nat):casR u d (liftN f N e) (N+e) 0=casR u d f N 0:=by
 have h1:=cas_mul (u:=u) (d:=d) (m:=N) (n:=e) f (fun _=>1)
 rw [casR_one h,Rat.mul_one] at h1
 rw [←h1]
 refine casR_congr fun j hj=>?_
 have hb:=binQ_ne (n:=N+e) (k:=j) (by omega)
 have h2:=lift_ones f N e j (by omega)
 have h3:convR (fun i=>binQ N i*f i) (fun i=>binQ e i*1) e (N+1) j=onesR (fun i=>binQ N i*f i) e (N+1) j:=by
  rw [←ones_conv]
  exact convR_congr (fun q _=>rfl) (fun q _=>by grind)
 rw [h3,←h2]
 generalize binQ (N+e) j=b at*
 generalize liftN f N e j=x at*
 grind
theorem cas_pow (t:Rat) (f:Nat→Rat): ∀(k i:Nat),casR t (1-t) f k i=sumR (fun j=>binQ k j*t^j*difR f j i) (k+1)
 | 0,i=>by
   show f i=0+((bin 0 0:Int):Rat)*t^0*f i
   have:((bin 0 0:Int):Rat)=1:=rfl
   rw [this,Rat.pow_zero];grind
 | k+1,i=>by
   show (1-t)*casR t (1-t) f k i+t*casR t (1-t) f k (i+1)=_
   have e0:(1-t)*casR t (1-t) f k i+t*casR t (1-t) f k (i+1)=casR t (1-t) f k i+t*(casR t (1-t) f k (i+1)-casR t (1-t) f k i):=by grind
   rw [e0,cas_pow t f k i,cas_pow t f k (i+1)]
   have e1:sumR (fun j=>binQ k j*t^j*difR f j (i+1)) (k+1)-sumR (fun j=>binQ k j*t^j*difR f j i) (k+1)=sumR (fun j=>binQ k j*t^j*difR f (j+1) i) (k+1):=by
    have:sumR (fun j=>binQ k j*t^j*difR f j (i+1)) (k+1)=sumR (fun j=>binQ k j*t^j*difR f (j+1) i) (k+1)+sumR (fun j=>binQ k j*t^j*difR f j i) (k+1):=by
     rw [←sumR_add]
     refine sumR_congr fun j hj=>?_
     show _=binQ k j*t^j*(difR f j (i+1)-difR f j i)+_
     grind
    rw [this];grind
   rw [e1,←sumR_mul]
   have e2:sumR (fun j=>binQ k j*t^j*difR f j i) (k+1)=sumR (fun j=>binQ k j*t^j*difR f j i) (k+1+1):=by
    show _=sumR _ (k+1)+binQ k (k+1)*_*_
    have:binQ k (k+1)=0:=by unfold binQ;rw [bin_over (by omega)];rfl
    rw [this];grind
   rw [e2,sumR_front,sumR_front (fun j=>binQ (k+1) j*t^j*difR f j i),Rat.add_assoc,←sumR_add]
   congr 1
   ·have:binQ (k+1) 0=binQ k 0:=by unfold binQ;rw [bin_zero,bin_zero]
    rw [this]
   ·refine sumR_congr fun j hj=>?_
    have e3:binQ (k+1) (j+1)=binQ k j+binQ k (j+1):=by
     unfold binQ
     show ((((bin k j+bin k (j+1):Nat):Nat):Int):Rat)=_
     rw [Int.natCast_add,Rat.intCast_add]
    rw [e3,Rat.pow_succ]
    generalize t^j=z
    grind
def horR (t:Rat) (c:Nat→Rat) (n:Nat):Nat→Rat
 | 0=>0
 | k+1=>horR t c n k*t+c (n-k)
theorem horR_sum (t:Rat) (c:Nat→Rat) (n:Nat): ∀k,k≤n+1→horR t c n k=sumR (fun j=>t^j*c (n+1-k+j)) k
 | 0,_=>rfl
 | k+1,h=>by
   show horR t c n k*t+c (n-k)=_
   rw [horR_sum t c n k (by omega),sumR_front,Rat.mul_comm,←sumR_mul]
   have e:sumR (fun i=>t*(t^i*c (n+1-k+i))) k=sumR (fun i=>t^(i+1)*c (n+1-(k+1)+(i+1))) k:=sumR_congr fun i hi=>by
    rw [Rat.pow_succ,show n+1-(k+1)+(i+1)=n+1-k+i by omega]
    generalize t^i=z
    grind
   rw [e,Rat.pow_zero,show n+1-(k+1)+0=n-k by omega]
   grind
theorem horR_cas (t:Rat) (f:Nat→Rat) (n:Nat):horR t (fun k=>binQ n k*difR f k 0) n (n+1)=casR t (1-t) f n 0:=by
 rw [horR_sum _ _ _ _ (Nat.le_refl _),cas_pow]
 refine sumR_congr fun j hj=>?_
 rw [Nat.sub_self,Nat.zero_add];grind
end
def cau (a b:Nat→Rat) (k:Nat):Rat:=sumR (fun q=>a q*b (k-q)) (k+1)
def trR (m:Nat) (a:Nat→Rat) (q:Nat):Rat:=if q≤m then a q else 0
theorem convR_ind (a b:Nat→Rat) (n:Nat): ∀i k,convR a b n i k=sumR (fun q=>if q≤k∧k≤q+n then a q*b (k-q) else 0) i
 | 0,_=>rfl
 | i+1,k=>by show convR a b n i k+_=sumR _ i+_;rw [convR_ind a b n i k]
theorem conv_cau {a b:Nat→Rat} {m n k:Nat} :convR a b n (m+1) k=cau (trR m a) (trR n b) k:=by
 rw [convR_ind]
 unfold cau trR
 refine sumR_ext (fun q h1 h2=>?_) (fun q h1 h2=>if_neg (by omega)) (fun q h1 h2=>by rw [if_neg (by omega)];grind)
 rw [if_pos (show q≤m by omega)]
 by_cases h:k-q≤n
 ·rw [if_pos h,if_pos (by omega)]
 ·rw [if_neg h,if_neg (by omega)];grind
abbrev ntQ (i:Nat):Rat:=((i:Int):Rat)
theorem ntQ_sub {i j:Nat} (h:j≤i):ntQ (i-j)=ntQ i-ntQ j:=by
 unfold ntQ
 rw [←Rat.intCast_sub];congr 1;omega
theorem cau_add (a b c:Nat→Rat) (k:Nat):cau (fun q=>a q+b q) c k=cau a c k+cau b c k:=by
 unfold cau;rw [←sumR_add];exact sumR_congr fun q _=>by grind
theorem cau_add2 (a b c:Nat→Rat) (k:Nat):cau a (fun q=>b q+c q) k=cau a b k+cau a c k:=by
 unfold cau;rw [←sumR_add];exact sumR_congr fun q _=>by grind
theorem cau_mul (s:Rat) (a b:Nat→Rat) (k:Nat):cau (fun q=>s*a q) b k=s*cau a b k:=by
 unfold cau;rw [←sumR_mul];exact sumR_congr fun q _=>by grind
theorem cau_mul2 (s:Rat) (a b:Nat→Rat) (k:Nat):cau a (fun q=>s*b q) k=s*cau a b k:=by
 unfold cau;rw [←sumR_mul];exact sumR_congr fun q _=>by grind
theorem cau_theta (a b:Nat→Rat) (k:Nat):ntQ k*cau a b k=cau (fun q=>ntQ q*a q) b k+cau a (fun q=>ntQ q*b q) k:=by
 unfold cau
 rw [←sumR_mul,←sumR_add]
 exact sumR_congr fun q hq=>by dsimp only;rw [ntQ_sub (show q≤k by omega)];grind
theorem cau_der (a b:Nat→Rat) (k:Nat):ntQ (k+1)*cau a b (k+1)=cau (fun q=>ntQ (q+1)*a (q+1)) b k+cau a (fun q=>ntQ (q+1)*b (q+1)) k:=by
 rw [cau_theta]
 congr 1
 ·unfold cau
  rw [sumR_front]
  have h0:ntQ 0=0:=rfl
  dsimp only
  rw [h0]
  have:sumR (fun i=>ntQ (i+1)*a (i+1)*b (k+1-(i+1))) (k+1)=sumR (fun q=>ntQ (q+1)*a (q+1)*b (k-q)) (k+1):=sumR_congr fun q _=>by rw [show k+1-(q+1)=k-q by omega]
  rw [this];grind
 ·unfold cau
  show sumR _ (k+1)+a (k+1)*(ntQ (k+1-(k+1))*_)=_
  rw [Nat.sub_self]
  have h0:ntQ 0=0:=rfl
  rw [h0]
  have:sumR (fun q=>a q*(ntQ (k+1-q)*b (k+1-q))) (k+1)=sumR (fun q=>a q*(ntQ (k-q+1)*b (k-q+1))) (k+1):=sumR_congr fun q hq=>by rw [show k+1-q=k-q+1 by omega]
  rw [this];grind
def derW (n:Nat) (w:Nat→Rat) (i:Nat):Rat:=ntQ (i+1)*w (i+1)-(ntQ n-ntQ i)*w i
theorem derW_wgt {n i:Nat} (f:Nat→Rat) (h:i≤n):derW (n+1) (fun i=>binQ (n+1) i*f i) i=binQ n i*(ntQ (n+1)*(f (i+1)-f i)):=by
 unfold derW
 dsimp only
 have e1:=castQ (bin_low (n:=n) (k:=i) h)
 have e2:=castQ (bin_high (n:=n) (k:=i) (by omega))
 have e3:(((n+1-i:Nat):Int):Rat)=ntQ (n+1)-ntQ i:=ntQ_sub (by omega)
 rw [e3] at e2
 unfold binQ ntQ at*
 generalize ((bin (n+1) (i+1):Int):Rat)=a at*
 generalize ((bin (n+1) i:Int):Rat)=b at*
 generalize ((bin n i:Int):Rat)=c at*
 generalize (((n+1:Nat):Int):Rat)=N at*
 generalize (((i+1:Nat):Int):Rat)=j at*
 generalize ((i:Int):Rat)=q at*
 generalize f (i+1)=x at*
 generalize f i=y at*
 have:j*(a*x)=a*j*x:=by grind
 have h2:(N-q)*(b*y)=b*(N-q)*y:=by grind
 rw [this,h2,e1,e2];grind
theorem derW_cau (m n:Nat) (a b:Nat→Rat) (k:Nat):derW (m+n) (cau a b) k=cau (derW m a) b k+cau a (derW n b) k:=by
 have h1:=cau_der a b k
 have h2:=cau_theta a b k
 have e1:cau (derW m a) b k=cau (fun q=>ntQ (q+1)*a (q+1)) b k+(cau (fun q=>ntQ q*a q) b k+ -ntQ m*cau a b k):=by
  rw [←cau_mul,←cau_add,←cau_add]
  unfold cau
  exact sumR_congr fun q _=>by unfold derW;grind
 have e2:cau a (derW n b) k=cau a (fun q=>ntQ (q+1)*b (q+1)) k+(cau a (fun q=>ntQ q*b q) k+ -ntQ n*cau a b k):=by
  rw [←cau_mul2,←cau_add2,←cau_add2]
  unfold cau
  exact sumR_congr fun q _=>by unfold derW;grind
 have e3:ntQ (m+n)=ntQ m+ntQ n:=by
  unfold ntQ
  rw [←Rat.intCast_add];congr 1
 rw [e1,e2]
 unfold derW
 rw [h1,e3]
 grind
theorem cau_congr {a b a' b':Nat→Rat} {k:Nat} (h1: ∀q,q≤k→a q=a' q) (h2: ∀q,q≤k→b q=b' q):cau a b k=cau a' b' k:=sumR_congr fun q hq=>by rw [h1 q (by omega),h2 (k-q) (by omega)]
theorem trR_der {n:Nat} (w:Nat→Rat) (q:Nat):derW (n+1) (trR (n+1) w) q=trR n (derW (n+1) w) q:=by
 unfold derW trR
 by_cases h:q≤n
 ·rw [if_pos h,if_pos (show q+1≤n+1 by omega),if_pos (show q≤n+1 by omega)]
 ·rw [if_neg h,if_neg (show ¬q+1≤n+1 by omega)]
  by_cases h2:q=n+1
  ·subst h2;rw [if_pos (Nat.le_refl _)];grind
  ·rw [if_neg (show ¬q≤n+1 by omega)];grind
theorem dif_mul {f g:Nat→Rat} {m n i:Nat} (hi:i≤m+n+1):
  ntQ (m+1+(n+1))*(convR (fun i=>binQ (m+1) i*f i) (fun i=>binQ (n+1) i*g i) (n+1) (m+1+1) (i+1)/binQ (m+1+(n+1)) (i+1)-convR (fun i=>binQ (m+1) i*f i) (fun i=>binQ (n+1) i*g i) (n+1) (m+1+1) i/binQ (m+1+(n+1)) i)
   =convR (fun i=>binQ m i*(ntQ (m+1)*(f (i+1)-f i))) (fun i=>binQ (n+1) i*g i) (n+1) (m+1) i/binQ (m+(n+1)) i+convR (fun i=>binQ (m+1) i*f i) (fun i=>binQ n i*(ntQ (n+1)*(g (i+1)-g i))) n (m+1+1) i/binQ (m+1+n) i:=by
 obtain ⟨a,ha⟩: ∃a:Nat→Rat,a=fun i=>binQ (m+1) i*f i:=⟨_,rfl⟩
 obtain ⟨b,hb⟩: ∃b:Nat→Rat,b=fun i=>binQ (n+1) i*g i:=⟨_,rfl⟩
 obtain ⟨N,hN⟩: ∃N,N=m+n+1:=⟨_,rfl⟩
 rw [←ha,←hb]
 have e1:convR (fun i=>binQ m i*(ntQ (m+1)*(f (i+1)-f i))) b (n+1) (m+1) i=cau (derW (m+1) (trR (m+1) a)) (trR (n+1) b) i:=by
  rw [conv_cau]
  refine cau_congr (fun q _=>?_) (fun q _=>rfl)
  rw [trR_der]
  unfold trR
  by_cases h:q≤m
  ·rw [if_pos h,if_pos h,ha,derW_wgt f h]
  ·rw [if_neg h,if_neg h]
 have e2:convR a (fun i=>binQ n i*(ntQ (n+1)*(g (i+1)-g i))) n (m+1+1) i=cau (trR (m+1) a) (derW (n+1) (trR (n+1) b)) i:=by
  rw [conv_cau]
  refine cau_congr (fun q _=>rfl) (fun q _=>?_)
  rw [trR_der]
  unfold trR
  by_cases h:q≤n
  ·rw [if_pos h,if_pos h,hb,derW_wgt g h]
  ·rw [if_neg h,if_neg h]
 have e3:=derW_cau (m+1) (n+1) (trR (m+1) a) (trR (n+1) b) i
 have e4: ∀k,convR a b (n+1) (m+1+1) k=cau (trR (m+1) a) (trR (n+1) b) k:=fun k=>conv_cau
 rw [e1,e2,e4,e4]
 generalize cau (trR (m+1) a) (trR (n+1) b)=c at*
 rw [show m+(n+1)=N by omega,show m+1+n=N by omega,show m+1+(n+1)=N+1 by omega]
 rw [show m+1+(n+1)=N+1 by omega] at e3
 have hb0:=binQ_ne (n:=N) (k:=i) (by omega)
 have h5:=derW_wgt (n:=N) (i:=i) (fun k=>c k/binQ (N+1) k) (by omega)
 have h6:derW (N+1) (fun i=>binQ (N+1) i*(c i/binQ (N+1) i)) i=derW (N+1) c i:=by
  unfold derW
  dsimp only
  have hb1:=binQ_ne (n:=N+1) (k:=i) (by omega)
  have hb2:=binQ_ne (n:=N+1) (k:=i+1) (by omega)
  generalize binQ (N+1) i=x at*
  generalize binQ (N+1) (i+1)=y at*
  have z1:x*(c i/x)=c i:=by grind
  have z2:y*(c (i+1)/y)=c (i+1):=by grind
  rw [z1,z2]
 rw [h6,e3] at h5
 generalize ntQ (N+1)*(c (i+1)/binQ (N+1) (i+1)-c i/binQ (N+1) i)=x at*
 generalize binQ N i=y at*
 generalize cau (derW (m+1) (trR (m+1) a)) (trR (n+1) b) i=p at*
 generalize cau (trR (m+1) a) (derW (n+1) (trR (n+1) b)) i=q at*
 have:p/y+q/y=(p+q)/y:=by grind
 rw [this,h5]
 grind
end Go.Proofs.YtnkobfcnflphkaaGreatDoor
