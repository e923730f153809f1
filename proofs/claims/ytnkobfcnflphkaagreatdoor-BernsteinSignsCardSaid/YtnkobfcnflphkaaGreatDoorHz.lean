/-
  Several texts in one: Zm, Zn, Zp, Zq, Zx, Zy, Zz.
-/
import Derived.Test.YtnkobfcnflphkaaGreatDoorBj
import Derived.Test.YtnkobfcnflphkaaGreatDoorGr
namespace Go.Proofs.YtnkobfcnflphkaaGreatDoor
set_option linter.unusedVariables false
set_option linter.unusedSimpArgs false
def tab {α:Type} (m:Nat) (g:Nat→α):List α:=(List.range m).map g
section
variable {α β:Type} {m i q:Nat} {g h:Nat→α} {x:α}
@[simp] theorem tab_len:(tab m g).length=m:=by unfold tab;simp
theorem tab_get?:(tab m g)[q]?=if q<m then some (g q) else none:=by
 unfold tab
 rw [List.getElem?_map]
 by_cases h:q<m
 ·rw [if_pos h,List.getElem?_range h];rfl
 ·rw [if_neg h,List.getElem?_eq_none (by simpa using h)];rfl
theorem tab_get (hq:q<m):(tab m g)[q]?=some (g q):=by rw [tab_get?,if_pos hq]
theorem tab_at (hq:q<m):(tab m g)[((q:Nat):Int).toNat]?=some (g q):=by rw [Int.toNat_natCast];exact tab_get hq
theorem tab_eq {l:List α} (hl:l.length=m) (h: ∀q,q<m→l[q]?=some (g q)):l=tab m g:=by
 refine List.ext_getElem? fun q=>?_
 rw [tab_get?]
 by_cases hq:q<m
 ·rw [if_pos hq,h q hq]
 ·rw [if_neg hq,List.getElem?_eq_none (by omega)]
theorem tab_congr (he: ∀q,q<m→g q=h q):tab m g=tab m h:=tab_eq tab_len fun q hq=>by rw [tab_get hq,he q hq]
theorem tab_set (hi:i<m) (h1:h i=x) (h2: ∀q,q<m→q≠i→h q=g q):(tab m g).set i x=tab m h:=tab_eq (by simp) fun q hq=>by
 by_cases hqi:q=i
 ·subst hqi
  rw [List.getElem?_set_self (by simpa using hq),h1]
 ·rw [List.getElem?_set_ne (Ne.symm hqi),tab_get hq,h2 q hq hqi]
theorem tab_succ:tab m g++ [g m]=tab (m+1) g:=by unfold tab;rw [List.range_succ,List.map_append];rfl
theorem tab_of (d:α) (l:List α):tab l.length (fun i=>l.getD i d)=l:=(tab_eq rfl fun q hq=>by
 rw [List.getD_eq_getElem?_getD,List.getElem?_eq_getElem hq];rfl).symm
theorem tab_map (f:α→β):(tab m g).map f=tab m fun i=>f (g i):=by unfold tab;rw [List.map_map];rfl
theorem map_tab (f:α→β) (d:α) (l:List α):l.map f=tab l.length fun i=>f (l.getD i d):=by
 have:=congrArg (List.map f) (tab_of d l)
 rw [tab_map] at this
 exact this.symm
theorem tab_zero:tab 0 g= []:=rfl
theorem tab_rep:List.replicate m x=tab m fun _=>x:=tab_eq (by simp) fun q hq=>by rw [List.getElem?_replicate,if_pos hq]
theorem tab_getD (d:α) (hq:q<m):(tab m g).getD q d=g q:=by rw [List.getD_eq_getElem?_getD,tab_get hq];rfl
end
def casR (u d:Rat) (f:Nat→Rat):Nat→Nat→Rat
 | 0,i=>f i
 | k+1,i=>d*casR u d f k i+u*casR u d f k (i+1)
def casI (u d:Rat) (f:Nat→Rat) (n s i:Nat) (q:Nat):Rat:=if q<i then casR u d f (s+1) q else if q+s≤n then casR u d f s q else casR u d f (n-q) q
section
variable {u d z s:Rat} {f g:Nat→Rat} {n k i q t:Nat}
theorem casI_start:tab (n+1) (casI u d f n 0 0)=tab (n+1) f:=tab_congr fun q hq=>by unfold casI;rw [if_neg (by omega),if_pos (by omega)];rfl
theorem casI_step (h:k<n):tab (n+1) (casI u d f n k (n-k))=tab (n+1) (casI u d f n (k+1) 0):=tab_congr fun q hq=>by
 unfold casI
 rw [if_neg (Nat.not_lt_zero q)]
 by_cases h1:q<n-k
 ·rw [if_pos h1,if_pos (by omega)]
 ·rw [if_neg h1]
  by_cases h2:q+k≤n
  ·rw [if_pos h2,if_neg (by omega),show n-q=k by omega]
  ·rw [if_neg h2,if_neg (by omega)]
theorem casI_end:tab (n+1) (casI u d f n n 0)=tab (n+1) fun q=>casR u d f (n-q) q:=tab_congr fun q hq=>by
 unfold casI
 rw [if_neg (Nat.not_lt_zero q)]
 by_cases h2:q+n≤n
 ·rw [if_pos h2]
  have:q=0:=by omega
  subst this
  rfl
 ·rw [if_neg h2]
theorem casI_set (h:i+k<n) (hx:s=d*casR u d f k i+u*casR u d f k (i+1)):(tab (n+1) (casI u d f n k i)).set i s=tab (n+1) (casI u d f n k (i+1)):=
 tab_set (by omega) (by unfold casI;rw [if_pos (by omega),hx];rfl) fun q hq hqi=>by
  unfold casI
  by_cases h1:q<i
  ·rw [if_pos h1,if_pos (by omega)]
  ·rw [if_neg h1,if_neg (by omega)]
theorem casI_at (h:q+k≤n) (hi:i≤q):casI u d f n k i q=casR u d f k q:=by
 unfold casI
 rw [if_neg (by omega),if_pos h]
theorem casR_scale (u d s z:Rat) (f:Nat→Rat): ∀(k i:Nat),casR (u*z) (d*z) (fun i=>s*f i) k i=s*z^k*casR u d f k i
 | 0,i=>by show s*f i=s*z^0*f i;rw [Rat.pow_zero,Rat.mul_one]
 | k+1,i=>by
   show d*z*casR (u*z) (d*z) _ k i+u*z*casR (u*z) (d*z) _ k (i+1)=s*z^(k+1)*(d*casR u d f k i+u*casR u d f k (i+1))
   rw [casR_scale u d s z f k i,casR_scale u d s z f k (i+1),Rat.pow_succ]
   grind
end
theorem rat_den (x:Rat):x*((x.den:Int):Rat)=((x.num:Int):Rat):=by
 have h0:((x.den:Int):Rat)≠0:=by
  intro h
  have:x.den=0:=by exact_mod_cast h
  exact x.den_nz this
 have h:=Rat.mkRat_self x
 rw [Rat.mkRat_eq_div] at h
 rw [←Rat.intCast_natCast] at h
 generalize ((x.den:Int):Rat)=d at*
 generalize ((x.num:Int):Rat)=m at*
 rw [←h]
 grind
theorem Sz.pow {a E:Nat} (h:Sz a E): ∀k:Nat,Sz (k*a+1) (E^k)
 | 0=>by rw [Nat.pow_zero];exact length_toL_le _ _ (by rw [Nat.zero_mul,Nat.zero_add];decide)
 | k+1=>by
   rw [Nat.pow_succ]
   exact (Sz.mul (Sz.pow h k) h).mono (by rw [Nat.succ_mul];omega)
def IB (D B:Nat) (x:Rat):Prop:= ∃k:Int,x*((D:Int):Rat)=(k:Rat)∧k.natAbs≤B
theorem IB.rsz {D B J:Nat} {x:Rat} (h:IB D B x) (hD:0<D) (h1:Sz J D) (h2:Sz J B):RSz J x:=by
 obtain ⟨k,hk,hb⟩:=h
 have h0:((D:Int):Rat)≠0:=by
  intro h
  have:(D:Int)=0:=by exact_mod_cast h
  omega
 have e:x=mkRat k D:=by
  rw [Rat.mkRat_eq_div,←hk,Rat.intCast_natCast]
  rw [Rat.intCast_natCast] at h0
  grind
 rw [e]
 exact RSz.of_mkRat (h2.le hb) h1 (by omega)
theorem IB.of_rsz {J:Nat} {x:Rat} :IB x.den x.num.natAbs x:=⟨x.num,rat_den _,Nat.le_refl _⟩
theorem IB.mono {D B B':Nat} {x:Rat} (h:IB D B x) (hb:B≤B'):IB D B' x:=by
 obtain ⟨k,h1,h2⟩:=h
 exact ⟨k,h1,Nat.le_trans h2 hb⟩
theorem natAbs_comb (a b c d:Int):(a*b+c*d).natAbs≤a.natAbs*b.natAbs+c.natAbs*d.natAbs:=by
 rw [←Int.natAbs_mul,←Int.natAbs_mul]
 exact Int.natAbs_add_le _ _
theorem casR_ib {u d:Rat} {f:Nat→Rat} {D B E U V n:Nat} (hf: ∀i,i≤n→IB D B (f i)) (hu:IB E U u) (hd:IB E V d): ∀(k i:Nat),k+i≤n→IB (D*E^k) (B*(U+V)^k) (casR u d f k i)
 | 0,i,h=>by rw [Nat.pow_zero,Nat.pow_zero,Nat.mul_one,Nat.mul_one];exact hf i (by omega)
 | k+1,i,h=>by
   obtain ⟨a,ha,hab⟩:=casR_ib hf hu hd k i (by omega)
   obtain ⟨b,hb,hbb⟩:=casR_ib hf hu hd k (i+1) (by omega)
   obtain ⟨p,hp,hpb⟩:=hu
   obtain ⟨q,hq,hqb⟩:=hd
   refine ⟨q*a+p*b,?_,?_⟩
   ·have e:((D*E^(k+1):Nat):Int)=(D*E^k:Nat)*(E:Nat):=by rw [Nat.pow_succ,←Nat.mul_assoc,Int.natCast_mul]
    show (d*casR u d f k i+u*casR u d f k (i+1))*(((D*E^(k+1):Nat):Int):Rat)=_
    rw [e,Rat.intCast_mul,Rat.intCast_add,Rat.intCast_mul,Rat.intCast_mul,←ha,←hb,←hp,←hq]
    grind
   ·refine Nat.le_trans (natAbs_comb _ _ _ _) ?_
    have h1:=Nat.mul_le_mul hqb hab
    have h2:=Nat.mul_le_mul hpb hbb
    rw [Nat.pow_succ]
    have:B*((U+V)^k*(U+V))=V*(B*(U+V)^k)+U*(B*(U+V)^k):=by
     rw [←Nat.mul_assoc,Nat.mul_add,Nat.mul_comm V,Nat.mul_comm U,Nat.add_comm]
    omega
def denQ (x:Rat):Rat:=((x.den:Int):Rat)
theorem denQ_pos (x:Rat):0<denQ x:=by
 unfold denQ
 have h:(0:Int)<(x.den:Int):=by have:=x.den_pos;omega
 have:=Rat.intCast_lt_intCast.2 h
 simpa using this
def whS:Rat→List Rat→Rat
 | s,[]=>s
 | s,r::l=>whS (s*denQ (s*r)) l
theorem den_dvd {x:Rat} {k:Nat} {z:Int} (hk:0<k) (h:x*((k:Int):Rat)=(z:Rat)):x.den∣k:=by
 have h0:((x.den:Int):Rat)≠0:=by have:=denQ_pos x;unfold denQ at this;grind
 have h1:x*((x.den:Int):Rat)=((x.num:Int):Rat):=rat_den _
 have h2:((x.num*k:Int):Rat)=((z*x.den:Int):Rat):=by
  rw [Rat.intCast_mul,Rat.intCast_mul,←h1,←h]
  grind
 have h3:x.num*k=z*x.den:=Rat.intCast_inj.1 h2
 have h4:x.den∣x.num.natAbs*k:=by
  refine ⟨z.natAbs,?_⟩
  have:=congrArg Int.natAbs h3
  rw [Int.natAbs_mul,Int.natAbs_mul] at this
  simpa [Nat.mul_comm] using this
 exact (Nat.Coprime.symm x.reduced).dvd_of_dvd_mul_left h4
theorem den_mul_int (m:Nat) (r:Rat):(((m:Int):Rat)*r).den∣r.den:=by
 have h1:r*((r.den:Int):Rat)=((r.num:Int):Rat):=rat_den _
 refine den_dvd r.den_pos (z:=m*r.num) ?_
 rw [Rat.intCast_mul,←h1]
 grind
theorem rsz_nat {a m:Nat} (h:Sz a m) (h1:1≤a):RSz a ((m:Int):Rat):=by
 have e:((m:Int):Rat)=mkRat m 1:=by rw [Rat.mkRat_one]
 rw [e]
 exact RSz.of_mkRat (by simpa using h) (length_toL_le _ _ (by
  have:(4294967296:Nat)^a≥4294967296^1:=Nat.pow_le_pow_right (by decide) h1
  omega)) (by decide)
theorem whS_step {m a j:Nat} {r:Rat} (hm:0<m) (ha:Sz a m) (hr:RSz j r): ∃n:Nat,0<n∧((m:Int):Rat)*denQ (((m:Int):Rat)*r)=((n:Int):Rat)∧Sz (a+j) n:=by
 have hd:=den_mul_int m r
 refine ⟨m*(((m:Int):Rat)*r).den,Nat.mul_pos hm (Rat.den_pos _),?_,ha.mul (hr.2.le (Nat.le_of_dvd r.den_pos hd))⟩
 unfold denQ
 rw [Int.natCast_mul,Rat.intCast_mul]
theorem whS_spec {j:Nat} : ∀(l:List Rat) (m a:Nat),0<m→Sz a m→(∀r∈l,RSz j r)→ ∃M:Nat,0<M∧m∣M∧whS ((m:Int):Rat) l=((M:Int):Rat)∧Sz (a+l.length*j) M∧ ∀r∈l,∃z:Int,((M:Int):Rat)*r=(z:Rat)
 | [],m,a,hm,ha,_=>⟨m,hm,Nat.dvd_refl _,rfl,by simpa using ha,fun r hr=>by cases hr⟩
 | r::l,m,a,hm,ha,hj=>by
   have hd:=den_mul_int m r
   obtain ⟨e,he⟩: ∃e,e=(((m:Int):Rat)*r).den:=⟨_,rfl⟩
   have hep:0<e:=by rw [he];exact Rat.den_pos _
   have hes:Sz j e:=(hj r List.mem_cons_self).2.le (Nat.le_of_dvd r.den_pos (he▸hd))
   obtain ⟨M,h1,h2,h3,h4,h5⟩:=whS_spec (j:=j) l (m*e) (a+j) (Nat.mul_pos hm hep) (ha.mul hes) fun r hr=>hj r (List.mem_cons_of_mem _ hr)
   have e1:((m:Int):Rat)*denQ (((m:Int):Rat)*r)=(((m*e:Nat):Int):Rat):=by
    unfold denQ
    rw [←he,Int.natCast_mul,Rat.intCast_mul]
   refine ⟨M,h1,Nat.dvd_trans (Nat.dvd_mul_right m e) h2,?_,h4.mono (by rw [List.length_cons,Nat.succ_mul];omega),fun x hx=>?_⟩
   ·show whS (((m:Int):Rat)*denQ (((m:Int):Rat)*r)) l=_
    rw [e1];exact h3
   ·rcases List.mem_cons.1 hx with rfl | hx
    ·obtain ⟨c,hc⟩:=h2
     have h6:((m:Int):Rat)*x*((e:Int):Rat)=(((((m:Int):Rat)*x).num:Int):Rat):=by rw [he];exact rat_den _
     refine ⟨c*(((m:Int):Rat)*x).num,?_⟩
     rw [hc,Rat.intCast_mul,←h6,Int.natCast_mul,Int.natCast_mul,Rat.intCast_mul,Rat.intCast_mul]
     grind
    ·exact h5 x hx
end Go.Proofs.YtnkobfcnflphkaaGreatDoor
namespace Go.Proofs.YtnkobfcnflphkaaGreatDoor
set_option linter.unusedVariables false
set_option linter.unusedSimpArgs false
def bin:Nat→Nat→Nat
 | _,0=>1
 | 0,_+1=>0
 | n+1,k+1=>bin n k+bin n (k+1)
theorem bin_zero (n:Nat):bin n 0=1:=by cases n<;>rfl
theorem bin_over: ∀ {n k:Nat},n<k→bin n k=0
 | 0,k+1,_=>rfl
 | n+1,k+1,h=>by show bin n k+bin n (k+1)=0;rw [bin_over (by omega),bin_over (by omega)]
theorem bin_self: ∀n:Nat,bin n n=1
 | 0=>rfl
 | n+1=>by show bin n n+bin n (n+1)=1;rw [bin_self n,bin_over (by omega)]
theorem bin_pos: ∀ {n k:Nat},k≤n→0<bin n k
 | n,0,_=>by rw [bin_zero];exact Nat.zero_lt_one
 | n+1,k+1,h=>by show 0<bin n k+bin n (k+1);have:=bin_pos (n:=n) (k:=k) (by omega);omega
theorem bin_le: ∀n k:Nat,bin n k≤2^n
 | n,0=>by rw [bin_zero];exact Nat.one_le_two_pow
 | 0,k+1=>by show 0≤_;exact Nat.zero_le _
 | n+1,k+1=>by
   show bin n k+bin n (k+1)≤_
   have h1:=bin_le n k
   have h2:=bin_le n (k+1)
   rw [Nat.pow_succ];omega
theorem bin_step: ∀ {n k:Nat},k≤n→bin n (k+1)*(k+1)=bin n k*(n-k)
 | 0,k,h=>by
   have:k=0:=by omega
   subst this
   rfl
 | n+1,0,_=>by
   show (bin n 0+bin n (0+1))*(0+1)=bin (n+1) 0*(n+1-0)
   have h1:=bin_step (n:=n) (k:=0) (Nat.zero_le _)
   simp only [bin_zero] at*
   omega
 | n+1,k+1,h=>by
   show (bin n (k+1)+bin n (k+1+1))*(k+1+1)=(bin n k+bin n (k+1))*(n+1-(k+1))
   have h1:=bin_step (n:=n) (k:=k) (by omega)
   rw [show n+1-(k+1)=n-k by omega,Nat.add_mul,Nat.add_mul,←h1]
   by_cases h0:k=n
   ·subst h0
    rw [bin_over (show k<k+1 by omega),bin_over (show k<k+1+1 by omega)];simp
   ·have h2:=bin_step (n:=n) (k:=k+1) (by omega)
    rw [h2,←Nat.mul_add,←Nat.mul_add]
    congr 1
    omega
abbrev binQ (n k:Nat):Rat:=((bin n k:Int):Rat)
theorem binQ_ne {n k:Nat} (h:k≤n):binQ n k≠0:=by
 intro h0
 have h1:((bin n k:Int):Rat)=((0:Int):Rat):=h0
 have:=Rat.intCast_inj.1 h1
 have:=bin_pos h
 omega
def convR (a b:Nat→Rat) (n:Nat):Nat→Nat→Rat
 | 0,_=>0
 | i+1,k=>convR a b n i k+(if i≤k∧k≤i+n then a i*b (k-i) else 0)
def convI (a b:Nat→Rat) (n i j:Nat) (k:Nat):Rat:=convR a b n i k+(if i≤k∧k<i+j then a i*b (k-i) else 0)
section
variable {a b:Nat→Rat} {m n i j k N:Nat}
theorem convI_start:tab N (convI a b n i 0)=tab N (convR a b n i):=tab_congr fun k _=>by
 unfold convI
 rw [if_neg (by omega)]
 exact Rat.add_zero _
theorem convI_end:tab N (convI a b n i (n+1))=tab N (convR a b n (i+1)):=tab_congr fun k _=>by
 unfold convI
 show _=convR a b n i k+_
 by_cases h:i≤k∧k≤i+n
 ·rw [if_pos h,if_pos ⟨h.1,by omega⟩]
 ·rw [if_neg h,if_neg (fun hh=>h ⟨hh.1,by omega⟩)]
theorem convI_at:convI a b n i j (i+j)=convR a b n i (i+j):=by
 unfold convI
 rw [if_neg (by omega)]
 exact Rat.add_zero _
theorem convI_set {x:Rat} (h:i+j<N) (hx:x=convI a b n i j (i+j)+a i*b j):(tab N (convI a b n i j)).set (i+j) x=tab N (convI a b n i (j+1)):=
 tab_set h (by
  rw [hx,convI_at]
  unfold convI
  rw [if_pos ⟨by omega,by omega⟩,show i+j-i=j by omega]) fun q hq hqi=>by
  unfold convI
  congr 1
  by_cases h:i≤q∧q<i+j
  ·rw [if_pos h,if_pos ⟨h.1,by omega⟩]
  ·rw [if_neg h,if_neg (fun hh=>h ⟨hh.1,by omega⟩)]
theorem convR_scale (s t:Rat): ∀(i k:Nat),convR (fun i=>s*a i) (fun i=>t*b i) n i k=s*t*convR a b n i k
 | 0,k=>by show (0:Rat)=s*t*0;grind
 | i+1,k=>by
   show convR _ _ n i k+_=s*t*(convR a b n i k+_)
   rw [convR_scale s t i k]
   split<;>grind
theorem convR_congr {a' b':Nat→Rat} : ∀ {i k:Nat},(∀q,q<i→a q=a' q)→(∀q,q≤n→b q=b' q)→convR a b n i k=convR a' b' n i k
 | 0,_,_,_=>rfl
 | i+1,k,h1,h2=>by
   show convR a b n i k+_=convR a' b' n i k+_
   rw [convR_congr (i:=i) (fun q hq=>h1 q (by omega)) h2]
   congr 1
   by_cases h:i≤k∧k≤i+n
   ·rw [if_pos h,if_pos h,h1 i (by omega),h2 (k-i) (by omega)]
   ·rw [if_neg h,if_neg h]
end
end Go.Proofs.YtnkobfcnflphkaaGreatDoor
namespace Go.Proofs.YtnkobfcnflphkaaGreatDoor
set_option linter.unusedVariables false
set_option linter.unusedSimpArgs false
def lowR (t:Rat) (f:Nat→Rat) (i:Nat):Rat:=casR t (1-t) f i 0
def uppR (t:Rat) (f:Nat→Rat) (n i:Nat):Rat:=casR t (1-t) f (n-i) i
theorem rat_pow_ne {z:Rat} (h:z≠0): ∀k:Nat,z^k≠0
 | 0=>by rw [Rat.pow_zero];decide
 | k+1=>by
   rw [Rat.pow_succ]
   have:=rat_pow_ne h k
   intro h0
   rcases Rat.mul_eq_zero.1 h0 with h1 | h1
   ·exact this h1
   ·exact h h1
theorem rat_mul_ne {x y:Rat} (h:x≠0) (k:y≠0):x*y≠0:=fun h0=>by
 rcases Rat.mul_eq_zero.1 h0 with h1 | h1
 ·exact h h1
 ·exact k h1
theorem mul_div_self {x y:Rat} (h:x≠0):x*y/x=y:=by grind
section
variable {s z t u d:Rat} {f:Nat→Rat} {n i:Nat}
theorem cas_low (hs:s≠0) (hz:z≠0) (hu:u=t*z) (hd:d=z-u):casR u d (fun i=>s*f i) i 0/(s*z^i)=lowR t f i:=by
 have e:d=(1-t)*z:=by rw [hd,hu];grind
 rw [e,hu,casR_scale]
 exact mul_div_self (rat_mul_ne hs (rat_pow_ne hz i))
theorem cas_upp (hs:s≠0) (hz:z≠0) (hu:u=t*z) (hd:d=z-u):casR u d (fun i=>s*f i) (n-i) i/(s*z^(n-i))=uppR t f n i:=by
 have e:d=(1-t)*z:=by rw [hd,hu];grind
 rw [e,hu,casR_scale]
 exact mul_div_self (rat_mul_ne hs (rat_pow_ne hz _))
end
end Go.Proofs.YtnkobfcnflphkaaGreatDoor
namespace Go.Proofs.YtnkobfcnflphkaaGreatDoor
set_option linter.unusedVariables false
set_option linter.unusedSimpArgs false
theorem bin_low {n k:Nat} (h:k≤n):bin (n+1) (k+1)*(k+1)=bin n k*(n+1):=by
 show (bin n k+bin n (k+1))*(k+1)=_
 rw [Nat.add_mul,bin_step h,←Nat.mul_add]
 congr 1
 omega
theorem bin_high {n k:Nat} (h:k≤n+1):bin (n+1) k*(n+1-k)=bin n k*(n+1):=by
 rw [←bin_step (n:=n+1) (k:=k) h]
 by_cases h0:k≤n
 ·exact bin_low h0
 ·obtain rfl:k=n+1:=by omega
  rw [bin_over (show n+1<n+1+1 by omega),bin_over (show n<n+1 by omega)]
  simp
def liftR (f:Nat→Rat) (n i:Nat):Rat:=if i=0 then f 0 else if i=n then f (n-1) else f i+(f (i-1)-f i)*(((i:Int):Rat)/((n:Int):Rat))
theorem castQ {a b c d:Nat} (h:a*b=c*d):((a:Int):Rat)*((b:Int):Rat)=((c:Int):Rat)*((d:Int):Rat):=by
 rw [←Rat.intCast_mul,←Rat.intCast_mul,←Int.natCast_mul,←Int.natCast_mul,h]
theorem natQ_ne {n:Nat} (h:0<n):((n:Int):Rat)≠0:=fun h0=>by
 have h1:((n:Int):Rat)=((0:Int):Rat):=h0
 have:=Rat.intCast_inj.1 h1
 omega
theorem lift_weight (f:Nat→Rat) {N i:Nat} (h:i≤N+1):binQ (N+1) i*liftR f (N+1) i=(if i≤N then binQ N i*f i else 0)+(if 0<i then binQ N (i-1)*f (i-1) else 0):=by
 unfold liftR
 by_cases h0:i=0
 ·subst h0
  rw [if_pos rfl,if_pos (Nat.zero_le _),if_neg (Nat.lt_irrefl 0)]
  unfold binQ
  rw [bin_zero,bin_zero,Rat.add_zero]
 ·rw [if_neg h0,if_pos (show 0<i by omega)]
  obtain ⟨k,rfl⟩: ∃k,i=k+1:=⟨i-1,by omega⟩
  simp only [Nat.add_sub_cancel]
  by_cases h1:k+1=N+1
  ·have hk:k=N:=by omega
   subst hk
   rw [if_pos rfl,if_neg (by omega)]
   unfold binQ
   rw [bin_self,bin_self]
   grind
  ·rw [if_neg h1,if_pos (show k+1≤N by omega)]
   have e1:=castQ (bin_low (n:=N) (k:=k) (by omega))
   have e2:=castQ (bin_high (n:=N) (k:=k+1) (by omega))
   have h2:=natQ_ne (n:=N+1) (by omega)
   have e3:((((N+1-(k+1):Nat)):Int):Rat)=(((N+1:Nat):Int):Rat)-(((k+1:Nat):Int):Rat):=by
    rw [←Rat.intCast_sub]
    congr 1
    omega
   rw [e3] at e2
   unfold binQ
   generalize (((N+1:Nat):Int):Rat)=n at*
   generalize (((k+1:Nat):Int):Rat)=q at*
   generalize ((bin (N+1) (k+1):Int):Rat)=b at*
   generalize ((bin N k:Int):Rat)=c at*
   generalize ((bin N (k+1):Int):Rat)=d at*
   generalize f (k+1)=x at*
   generalize f k=y at*
   have e4:b*(q/n)=c:=by
    have:b*(q/n)=b*q/n:=by grind
    rw [this,e1];grind
   have e5:b*(1-q/n)=d:=by
    have:b*(1-q/n)=b*(n-q)/n:=by grind
    rw [this,e2];grind
   have:b*(x+(y-x)*(q/n))=b*(1-q/n)*x+b*(q/n)*y:=by grind
   rw [this,e4,e5]
def liftN (f:Nat→Rat) (N:Nat):Nat→Nat→Rat
 | 0=>f
 | d+1=>liftR (liftN f N d) (N+d+1)
def onesR (a:Nat→Rat) (d:Nat):Nat→Nat→Rat
 | 0,_=>0
 | i+1,k=>onesR a d i k+(if i≤k then a i*binQ d (k-i) else 0)
theorem ones_conv (a:Nat→Rat) (d:Nat): ∀i k:Nat,convR a (binQ d) d i k=onesR a d i k
 | 0,_=>rfl
 | i+1,k=>by
   show convR a (binQ d) d i k+_=onesR a d i k+_
   rw [ones_conv a d i k]
   congr 1
   by_cases h:i≤k
   ·by_cases h2:k≤i+d
    ·rw [if_pos ⟨h,h2⟩,if_pos h]
    ·rw [if_neg (fun hh=>h2 hh.2),if_pos h]
     have:binQ d (k-i)=0:=by unfold binQ;rw [bin_over (by omega)];rfl
     rw [this,Rat.mul_zero]
   ·rw [if_neg (fun hh=>h hh.1),if_neg h]
theorem ones_step (a:Nat→Rat) (d:Nat): ∀i k:Nat,onesR a (d+1) i k=onesR a d i k+(if 0<k then onesR a d i (k-1) else 0)
 | 0,k=>by show (0:Rat)=0+_;split<;>grind [onesR]
 | i+1,k=>by
   show onesR a (d+1) i k+_=onesR a d i k+_+(if 0<k then onesR a d i (k-1)+_ else 0)
   rw [ones_step a d i k]
   have e:(if i≤k then a i*binQ (d+1) (k-i) else 0)=(if i≤k then a i*binQ d (k-i) else 0)+(if 0<k then (if i≤k-1 then a i*binQ d (k-1-i) else 0) else 0):=by
    by_cases h:i≤k
    ·rw [if_pos h,if_pos h]
     by_cases h2:i=k
     ·subst h2
      rw [Nat.sub_self]
      have:(if 0<i then (if i≤i-1 then a i*binQ d (i-1-i) else 0) else 0)=(0:Rat):=by
       by_cases h3:0<i
       ·rw [if_pos h3,if_neg (by omega)]
       ·rw [if_neg h3]
      rw [this,Rat.add_zero]
      unfold binQ
      rw [bin_zero,bin_zero]
     ·rw [if_pos (show 0<k by omega),if_pos (show i≤k-1 by omega)]
      obtain ⟨q,hq⟩: ∃q,k-i=q+1:=⟨k-i-1,by omega⟩
      rw [hq,show k-1-i=q by omega]
      have:binQ (d+1) (q+1)=binQ d q+binQ d (q+1):=by
       unfold binQ
       show ((((bin d q+bin d (q+1):Nat):Nat):Int):Rat)=_
       rw [Int.natCast_add,Rat.intCast_add]
      rw [this];grind
    ·rw [if_neg h,if_neg h]
     have:(if 0<k then (if i≤k-1 then a i*binQ d (k-1-i) else 0) else 0)=(0:Rat):=by
      by_cases h3:0<k
      ·rw [if_pos h3,if_neg (by omega)]
      ·rw [if_neg h3]
     rw [this];grind
   rw [e]
   by_cases h3:0<k
   ·simp only [if_pos h3];grind
   ·simp only [if_neg h3];grind
theorem ones_zero (a:Nat→Rat): ∀i k:Nat,onesR a 0 i k=if k<i then a k else 0
 | 0,k=>by rw [if_neg (Nat.not_lt_zero k)];rfl
 | i+1,k=>by
   show onesR a 0 i k+_=_
   rw [ones_zero a i k]
   have b0: ∀q,binQ 0 q=if q=0 then 1 else 0:=fun q=>by
    cases q with
    | zero=>rfl
    | succ q=>rfl
   rw [b0]
   by_cases h:k<i
   ·rw [if_pos h,if_neg (show ¬i≤k by omega),if_pos (by omega)];grind
   ·rw [if_neg h]
    by_cases h2:k=i
    ·subst h2
     rw [if_pos (Nat.le_refl _),Nat.sub_self,if_pos rfl,if_pos (by omega)];grind
    ·rw [if_pos (show i≤k by omega),if_neg (show ¬k-i=0 by omega),if_neg (by omega)];grind
theorem lift_ones (f:Nat→Rat) (N:Nat): ∀d k:Nat,k≤N+d→binQ (N+d) k*liftN f N d k=onesR (fun i=>binQ N i*f i) d (N+1) k
 | 0,k,h=>by
   rw [ones_zero,if_pos (by omega)]
   rfl
 | d+1,k,h=>by
   show binQ (N+d+1) k*liftR (liftN f N d) (N+d+1) k=_
   rw [lift_weight _ (by omega),ones_step]
   congr 1
   ·by_cases h1:k≤N+d
    ·rw [if_pos h1];exact lift_ones f N d k h1
    ·rw [if_neg h1]
     have key: ∀i k,i+d≤k→onesR (fun i=>binQ N i*f i) d i k=0:=by
      intro i
      induction i with
      | zero=>intro k _;rfl
      | succ i ih=>
        intro k hk
        show onesR _ d i k+_=0
        rw [ih k (by omega),if_pos (by omega)]
        have:binQ d (k-i)=0:=by unfold binQ;rw [bin_over (by omega)];rfl
        rw [this];grind
     exact (key (N+1) k (by omega)).symm
   ·by_cases h1:0<k
    ·rw [if_pos h1,if_pos h1];exact lift_ones f N d (k-1) (by omega)
    ·rw [if_neg h1,if_neg h1]
end Go.Proofs.YtnkobfcnflphkaaGreatDoor
namespace Go.Proofs.YtnkobfcnflphkaaGreatDoor
set_option linter.unusedVariables false
set_option linter.unusedSimpArgs false
section
variable {f g:Nat→Rat} {n o i q:Nat} {x:Rat}
end
end Go.Proofs.YtnkobfcnflphkaaGreatDoor
namespace Go.Proofs.YtnkobfcnflphkaaGreatDoor
set_option linter.unusedVariables false
set_option linter.unusedSimpArgs false
theorem sgnR_three (x:Rat):sgnR x= -1∨sgnR x=0∨sgnR x=1:=by
 unfold sgnR
 split
 ·exact .inr (.inl rfl)
 ·split
  ·exact .inl rfl
  ·exact .inr (.inr rfl)
theorem sgnR_pos {x:Rat} :sgnR x=1↔0<x:=by
 have h:0<x↔0<x.num:=by
  have h1:=Rat.num_nonneg (q:=x)
  have h2:x.num=0↔x=0:=Rat.num_eq_zero
  constructor
  ·intro hx
   have:=h1.2 (by grind)
   have h3: ¬x.num=0:=fun hh=>by have:=h2.1 hh;grind
   omega
  ·intro hx
   have:=h1.1 (by omega)
   have h3: ¬x=0:=fun hh=>by have:=h2.2 hh;omega
   grind
 rw [h]
 unfold sgnR
 split
 ·rename_i h0;constructor
  ·intro hh;cases hh
  ·intro hh;omega
 ·split
  ·rename_i h1;constructor
   ·intro hh;cases hh
   ·intro hh;omega
  ·constructor
   ·intro _;omega
   ·intro _;rfl
theorem sgnR_neg1 {x:Rat} :sgnR x= -1↔x<0:=by
 have h:x<0↔x.num<0:=by
  have:=Rat.num_nonneg (q:=x)
  rw [←Rat.not_le,←this];omega
 rw [h]
 unfold sgnR
 split
 ·rename_i h0;constructor
  ·intro hh;cases hh
  ·intro hh;omega
 ·split
  ·rename_i h1;exact ⟨fun _=>h1,fun _=>rfl⟩
  ·constructor
   ·intro hh;cases hh
   ·intro hh;omega
theorem sgnR_zero {x:Rat} :sgnR x=0↔x=0:=sgnR_eq
def varR:Int→List Rat→Nat
 | _,[]=>0
 | s,x::l=>if sgnR x=0 then varR s l else (if sgnR x= -s then 1 else 0)+varR (sgnR x) l
def lasS:Int→List Rat→Int
 | s,[]=>s
 | s,x::l=>if sgnR x=0 then lasS s l else lasS (sgnR x) l
abbrev S3 (s:Int):Prop:=s= -1∨s=0∨s=1
theorem varR_app: ∀(l m:List Rat) (s:Int),varR s (l++m)=varR s l+varR (lasS s l) m
 | [],m,s=>by show varR s m=0+varR s m;omega
 | x::l,m,s=>by
   show (if sgnR x=0 then varR s (l++m) else _+varR (sgnR x) (l++m))=(if sgnR x=0 then varR s l else _+varR (sgnR x) l)+varR (if sgnR x=0 then lasS s l else lasS (sgnR x) l) m
   by_cases h:sgnR x=0
   ·rw [if_pos h,if_pos h,if_pos h];exact varR_app l m s
   ·rw [if_neg h,if_neg h,if_neg h,varR_app l m];omega
theorem lasS_three: ∀(l:List Rat) (s:Int),S3 s→S3 (lasS s l)
 | [],s,h=>h
 | x::l,s,h=>by
   show S3 (if sgnR x=0 then lasS s l else lasS (sgnR x) l)
   split
   ·exact lasS_three l s h
   ·exact lasS_three l _ (sgnR_three x)
theorem varR_start: ∀(l:List Rat) (s t:Int),S3 s→S3 t→t≠0→varR s l≤varR t l+(if t= -s then 1 else 0)
 | [],s,t,_,_,_=>Nat.zero_le _
 | x::l,s,t,hs,ht,h0=>by
   show (if sgnR x=0 then varR s l else (if sgnR x= -s then 1 else 0)+varR (sgnR x) l)≤(if sgnR x=0 then varR t l else (if sgnR x= -t then 1 else 0)+varR (sgnR x) l)+(if t= -s then 1 else 0)
   by_cases h:sgnR x=0
   ·rw [if_pos h,if_pos h];exact varR_start l s t hs ht h0
   ·rw [if_neg h,if_neg h]
    have hx:=sgnR_three x
    generalize sgnR x=y at*
    generalize varR y l=v at*
    repeat' split
    all_goals omega
theorem varR_zero: ∀(l:List Rat) (s:Int),S3 s→varR 0 l≤varR s l
 | [],s,_=>Nat.zero_le _
 | x::l,s,hs=>by
   show (if sgnR x=0 then varR 0 l else (if sgnR x= -0 then 1 else 0)+varR (sgnR x) l)≤(if sgnR x=0 then varR s l else (if sgnR x= -s then 1 else 0)+varR (sgnR x) l)
   by_cases h:sgnR x=0
   ·rw [if_pos h,if_pos h];exact varR_zero l s hs
   ·rw [if_neg h,if_neg h,if_neg (show ¬sgnR x= -0 by omega)];omega
theorem varR_del (x:Rat) (l:List Rat) (s:Int) (hs:S3 s):varR s l≤varR s (x::l):=by
 show _≤(if sgnR x=0 then varR s l else (if sgnR x= -s then 1 else 0)+varR (sgnR x) l)
 by_cases h:sgnR x=0
 ·rw [if_pos h];exact Nat.le_refl _
 ·rw [if_neg h]
  have:=varR_start l s (sgnR x) hs (sgnR_three x) h
  omega
theorem varR_cons {x:Rat} {l m:List Rat} {s:Int} (hs:S3 s) (h: ∀t,S3 t→varR t l≤varR t m):varR s (x::l)≤varR s (x::m):=by
 show (if sgnR x=0 then varR s l else _+varR (sgnR x) l)≤(if sgnR x=0 then varR s m else _+varR (sgnR x) m)
 by_cases h0:sgnR x=0
 ·rw [if_pos h0,if_pos h0];exact h s hs
 ·rw [if_neg h0,if_neg h0];exact Nat.add_le_add_left (h _ (sgnR_three x)) _
abbrev Btw (x m y:Rat):Prop:=sgnR m=0∨sgnR m=sgnR x∨sgnR m=sgnR y
theorem varR_ins {x m y:Rat} {l:List Rat} {s:Int} (hs:S3 s) (h:Btw x m y):varR s (x::m::y::l)≤varR s (x::y::l):=by
 have hx:=sgnR_three x
 have hm:=sgnR_three m
 have hy:=sgnR_three y
 simp only [varR]
 unfold Btw at h
 have e0:=varR_start l
 generalize sgnR x=a at*
 generalize sgnR m=b at*
 generalize sgnR y=c at*
 by_cases hc:c=0
 ·subst hc
  simp only [if_true]
  by_cases hb:b=0
  ·subst hb;simp
  ·have hba:b=a:=by omega
   subst hba
   simp only [if_neg hb]
   have: ¬b= -b:=by omega
   simp [this]
 ·simp only [if_neg hc]
  generalize varR c l=v at*
  repeat' split
  all_goals omega
inductive Cut:Rat→List Rat→List Rat→Prop
 | nil {x:Rat} :Cut x [] [x]
 | cons {x m y:Rat} {l k:List Rat} (h:Btw x m y) (hk:Cut y l k):Cut x (y::l) (m::k)
theorem varR_cut {x:Rat} {l k:List Rat} (h:Cut x l k): ∀(b:List Rat) (s:Int),S3 s→varR s (x::(k++b))≤varR s (x::(l++b)):=by
 induction h with
 | @nil x=>
   intro b s hs
   show varR s (x::x::b)≤varR s (x::b)
   have hx:=sgnR_three x
   simp only [varR]
   by_cases h0:sgnR x=0
   ·simp [h0]
   ·have: ¬sgnR x= -sgnR x:=by omega
    simp [h0,this]
 | @cons x m y l k h hk ih=>
   intro b s hs
   refine Nat.le_trans ?_ (varR_ins (m:=m) hs h)
   refine varR_cons hs fun t ht=>varR_cons ht fun u hu=>?_
   exact Nat.le_trans (varR_del y _ u hu) (ih b u hu)
theorem varR_pre {l m:List Rat} (p:List Rat) {s:Int} (hs:S3 s) (h: ∀t,S3 t→varR t l≤varR t m):varR s (p++l)≤varR s (p++m):=by
 rw [varR_app,varR_app]
 exact Nat.add_le_add_left (h _ (lasS_three p s hs)) _
theorem tab_cons {α:Type} {m:Nat} {g:Nat→α} :tab (m+1) g=g 0::tab m fun i=>g (i+1):=by
 unfold tab
 rw [List.range_succ_eq_map,List.map_cons,List.map_map];rfl
theorem cut_tab: ∀ {m:Nat} {g h:Nat→Rat},(∀i,i<m→Btw (g i) (h i) (g (i+1)))→Cut (g 0) (tab m fun i=>g (i+1)) (tab m h++ [g m])
 | 0,g,h,_=>Cut.nil
 | m+1,g,h,H=>by
   rw [tab_cons,tab_cons (g:=h)]
   exact Cut.cons (H 0 (by omega)) (cut_tab (m:=m) (g:=fun i=>g (i+1)) (h:=fun i=>h (i+1)) fun i hi=>H (i+1) (by omega))
theorem btw_mix {x y t:Rat} (h0:0≤t) (h1:t≤1):Btw x ((1-t)*x+t*y) y:=by
 have hd:0≤1-t:=by grind
 unfold Btw
 have hx:=sgnR_three x
 have hy:=sgnR_three y
 by_cases a:0≤x
 ·by_cases b:0≤y
  ·have e1:=Rat.mul_nonneg hd a
   have e2:=Rat.mul_nonneg h0 b
   by_cases c:(1-t)*x+t*y=0
   ·exact .inl (sgnR_zero.2 c)
   ·have hp:0<(1-t)*x+t*y:=by grind
    rw [sgnR_pos.2 hp]
    by_cases ex:x=0
    ·have:0<y:=by
      rcases Rat.le_iff_lt_or_eq.1 b with h | h
      ·exact h
      ·exfalso;rw [ex,←h] at hp;grind
     exact .inr (.inr (sgnR_pos.2 this).symm)
    ·have:0<x:=by grind
     exact .inr (.inl (sgnR_pos.2 this).symm)
  ·have hy':sgnR y= -1:=sgnR_neg1.2 (by grind)
   rcases Rat.le_iff_lt_or_eq.1 a with hx' | hx'
   ·have:=sgnR_pos.2 hx'
    have:=sgnR_three ((1-t)*x+t*y)
    omega
   ·have e2:=Rat.mul_nonneg h0 (show 0≤ -y by grind)
    rw [←hx']
    by_cases c:(1-t)*0+t*y=0
    ·exact .inl (sgnR_zero.2 c)
    ·exact .inr (.inr (by rw [hy'];exact sgnR_neg1.2 (by grind)))
 ·have hx':sgnR x= -1:=sgnR_neg1.2 (by grind)
  by_cases b:0<y
  ·have:=sgnR_pos.2 b
   have:=sgnR_three ((1-t)*x+t*y)
   omega
  ·have e1:=Rat.mul_nonneg hd (show 0≤ -x by grind)
   have e2:=Rat.mul_nonneg h0 (show 0≤ -y by grind)
   by_cases c:(1-t)*x+t*y=0
   ·exact .inl (sgnR_zero.2 c)
   ·exact .inr (.inl (by rw [hx'];exact sgnR_neg1.2 (by grind)))
section
variable {f:Nat→Rat} {n:Nat} {t:Rat}
def polyg (t:Rat) (f:Nat→Rat) (n k:Nat):List Rat:=tab k (fun i=>casR t (1-t) f i 0)++(tab (n-k+1) (casR t (1-t) f k)++tab k fun i=>casR t (1-t) f (k-1-i) (n-k+1+i))
theorem polyg_step (h0:0≤t) (h1:t≤1) {k:Nat} (hk:k<n):varR 0 (polyg t f n (k+1))≤varR 0 (polyg t f n k):=by
 unfold polyg
 obtain ⟨m,hm⟩: ∃m,n-k=m+1:=⟨n-k-1,by omega⟩
 rw [show n-(k+1)+1=m+1 by omega,hm,←tab_succ (m:=k) (g:=fun i=>casR t (1-t) f i 0),List.append_assoc]
 refine varR_pre _ (.inr (.inl rfl)) fun s hs=>?_
 have C:=cut_tab (m:=m+1) (g:=casR t (1-t) f k) (h:=casR t (1-t) f (k+1)) fun i hi=>btw_mix h0 h1
 have:=varR_cut C (tab k fun i=>casR t (1-t) f (k-1-i) (m+1+1+i)) s hs
 rw [tab_cons (m:=m+1) (g:=casR t (1-t) f k)]
 refine Nat.le_trans (Nat.le_of_eq ?_) this
 congr 1
 show casR t (1-t) f k 0::(tab (m+1) (casR t (1-t) f (k+1))++_)=_
 rw [List.append_assoc,tab_cons (m:=k)]
 congr 2
 show _::_= [casR t (1-t) f k (m+1)]++_
 rw [List.singleton_append]
 congr 1
 refine tab_congr fun i hi=>?_
 rw [show k+1-1-(i+1)=k-1-i by omega,show m+1+(i+1)=m+1+1+i by omega]
theorem polyg_le (h0:0≤t) (h1:t≤1): ∀k,k≤n→varR 0 (polyg t f n k)≤varR 0 (tab (n+1) f)
 | 0,_=>by
   unfold polyg
   rw [Nat.sub_zero]
   exact Nat.le_of_eq (by rw [tab_zero,tab_zero,List.nil_append,List.append_nil];rfl)
 | k+1,h=>Nat.le_trans (polyg_step h0 h1 (by omega)) (polyg_le h0 h1 k (by omega))
theorem split_var (h0:0≤t) (h1:t≤1):varR 0 (tab (n+1) (fun i=>casR t (1-t) f i 0))+varR 0 (tab (n+1) (fun i=>casR t (1-t) f (n-i) i))≤varR 0 (tab (n+1) f):=by
 refine Nat.le_trans ?_ (polyg_le h0 h1 n (Nat.le_refl _))
 unfold polyg
 rw [Nat.sub_self,←tab_succ (m:=n) (g:=fun i=>casR t (1-t) f i 0),tab_cons (m:=n) (g:=fun i=>casR t (1-t) f (n-i) i)]
 have e:tab (0+1) (casR t (1-t) f n)= [casR t (1-t) f n 0]:=rfl
 rw [e,←List.append_assoc]
 have e2:(tab n fun i=>casR t (1-t) f (n-1-i) (0+1+i))=tab n fun i=>casR t (1-t) f (n-(i+1)) (i+1):=tab_congr fun i hi=>by
  rw [show n-1-i=n-(i+1) by omega,show 0+1+i=i+1 by omega]
 rw [e2,varR_app (tab n (fun i=>casR t (1-t) f i 0)++ [casR t (1-t) f n 0])]
 refine Nat.add_le_add_left ?_ _
 show varR 0 (casR t (1-t) f (n-0) 0::_)≤_
 rw [Nat.sub_zero]
 generalize casR t (1-t) f n 0=x
 generalize (tab n fun i=>casR t (1-t) f (n-(i+1)) (i+1))=b
 generalize tab n (fun i=>casR t (1-t) f i 0)=a
 have hl: ∀(a:List Rat) (s:Int),lasS s (a++ [x])=if sgnR x=0 then lasS s a else sgnR x:=by
  intro a
  induction a with
  | nil=>intro s;rfl
  | cons y a ih=>
    intro s
    show (if sgnR y=0 then lasS s (a++ [x]) else lasS (sgnR y) (a++ [x]))=_
    show _=if sgnR x=0 then (if sgnR y=0 then lasS s a else lasS (sgnR y) a) else _
    rw [ih,ih]
    split<;>rfl
 rw [hl]
 show (if sgnR x=0 then varR 0 b else (if sgnR x= -0 then 1 else 0)+varR (sgnR x) b)≤_
 by_cases h:sgnR x=0
 ·rw [if_pos h,if_pos h];exact varR_zero _ _ (lasS_three _ _ (.inr (.inl rfl)))
 ·rw [if_neg h,if_neg h,if_neg (show ¬sgnR x= -0 by omega)];omega
end
def mulL (a b:Rat):Rat→List Rat→List Rat
 | p,[]=> [b*p]
 | p,w::l=>(a*w+b*p)::mulL a b w l
theorem sgnR_mul (x y:Rat):sgnR (x*y)=sgnR x*sgnR y:=by
 have:=ord_mul x 0 y
 rw [Rat.zero_mul,←sgn_cmp,←sgn_cmp] at this
 exact this
section
variable {a b:Rat} {e:Int}
theorem varR_nz {x:Rat} {l:List Rat} {s:Int} (h:sgnR x≠0):varR s (x::l)=(if sgnR x= -s then 1 else 0)+varR (sgnR x) l:=if_neg h
theorem varR_z {x:Rat} {l:List Rat} {s:Int} (h:sgnR x=0):varR s (x::l)=varR s l:=if_pos h
theorem sgn_add {x y:Rat} {s:Int} (hs:s=1∨s= -1) (hx:sgnR x=s) (hy:sgnR y=s∨sgnR y=0):sgnR (x+y)=s:=by
 rcases hs with rfl | rfl
 ·have h1:=sgnR_pos.1 hx
  refine sgnR_pos.2 ?_
  rcases hy with h | h
  ·have:=sgnR_pos.1 h;grind
  ·have:=sgnR_zero.1 h;grind
 ·have h1:=sgnR_neg1.1 hx
  refine sgnR_neg1.2 ?_
  rcases hy with h | h
  ·have:=sgnR_neg1.1 h;grind
  ·have:=sgnR_zero.1 h;grind
theorem mulL_var (he:e=1∨e= -1) (ha:sgnR a=e) (hb:sgnR b= -e): ∀(l:List Rat),(∀(p:Rat) (s:Int),(s=1∨s= -1)→sgnR p=s→varR s l+1≤varR (e*s) (mulL a b p l))∧ ∀(s:Int),(s=1∨s= -1)→varR s l≤varR (-(e*s)) (mulL a b 0 l)
 | []=>by
   constructor
   ·intro p s hs hp
    have hq:sgnR (b*p)= -(e*s):=by rw [sgnR_mul,hb,hp,Int.neg_mul]
    show 0+1≤varR (e*s) [b*p]
    rw [varR_nz (by rw [hq];rcases he with rfl | rfl<;>rcases hs with rfl | rfl<;>decide),if_pos hq]
    exact Nat.le_refl 1
   ·intro s _;exact Nat.zero_le _
 | w::l=>by
   obtain ⟨iA,iB⟩:=mulL_var he ha hb l
   have hes: ∀s:Int,(s=1∨s= -1)→(e*s=1∨e*s= -1):=fun s hs=>by rcases he with rfl | rfl<;>rcases hs with rfl | rfl<;>decide
   constructor
   ·intro p s hs hp
    show _≤varR (e*s) ((a*w+b*p)::mulL a b w l)
    have hq:sgnR (b*p)= -(e*s):=by rw [sgnR_mul,hb,hp,Int.neg_mul]
    have hw:=sgnR_three w
    by_cases h0:sgnR w=0
    ·have hw0:=sgnR_zero.1 h0
     rw [varR_z h0,hw0,show a*0+b*p=b*p by grind,varR_nz (by rw [hq];have:=hes s hs;omega),if_pos hq,hq]
     have:=iB s hs
     omega
    ·by_cases h1:sgnR w=s
     ·rw [varR_nz h0,h1,if_neg (by omega)]
      have:=iA w s hs h1
      have h2:=varR_del (a*w+b*p) (mulL a b w l) (e*s) (by have:=hes s hs;omega)
      omega
     ·have h2:sgnR w= -s:=by omega
      have h3:sgnR (a*w+b*p)= -(e*s):=sgn_add (by have:=hes s hs;omega) (by rw [sgnR_mul,ha,h2,Int.mul_neg]) (.inl hq)
      rw [varR_nz h0,h2,if_pos rfl,varR_nz (by rw [h3];have:=hes s hs;omega),h3,if_pos rfl]
      have:=iA w (-s) (by omega) h2
      rw [Int.mul_neg] at this
      omega
   ·intro s hs
    show _≤varR (-(e*s)) ((a*w+b*0)::mulL a b w l)
    have hw:=sgnR_three w
    rw [show a*w+b*0=a*w by grind]
    have hq:sgnR (a*w)=e*sgnR w:=by rw [sgnR_mul,ha]
    by_cases h0:sgnR w=0
    ·have hw0:=sgnR_zero.1 h0
     rw [varR_z h0,varR_z (by rw [hq,h0,Int.mul_zero]),hw0]
     exact iB s hs
    ·by_cases h1:sgnR w=s
     ·rw [varR_nz h0,h1,if_neg (by omega),varR_nz (by rw [hq,h1];have:=hes s hs;omega),hq,h1]
      have:=iA w s hs h1
      omega
     ·have h2:sgnR w= -s:=by omega
      rw [varR_nz h0,h2,if_pos rfl,varR_nz (by rw [hq,h2,Int.mul_neg];have:=hes s hs;omega),hq,h2,Int.mul_neg]
      have:=iA w (-s) (by omega) h2
      rw [Int.mul_neg] at this
      omega
theorem mulL_more (he:e=1∨e= -1) (ha:sgnR a=e) (hb:sgnR b= -e): ∀(l:List Rat),(∃w∈l,sgnR w≠0)→varR 0 l+1≤varR 0 (mulL a b 0 l)
 | [],h=>by obtain ⟨w,hw,_⟩:=h;cases hw
 | w::l,h=>by
   show _≤varR 0 ((a*w+b*0)::mulL a b w l)
   rw [show a*w+b*0=a*w by grind]
   have hq:sgnR (a*w)=e*sgnR w:=by rw [sgnR_mul,ha]
   have hw:=sgnR_three w
   by_cases h0:sgnR w=0
   ·rw [varR_z h0,varR_z (by rw [hq,h0,Int.mul_zero]),sgnR_zero.1 h0]
    refine mulL_more he ha hb l ?_
    obtain ⟨v,hv,h1⟩:=h
    rcases List.mem_cons.1 hv with rfl | hv
    ·exact absurd h0 h1
    ·exact ⟨v,hv,h1⟩
   ·have hs:sgnR w=1∨sgnR w= -1:=by omega
    have:=(mulL_var he ha hb l).1 w (sgnR w) hs rfl
    have hne:e*sgnR w≠0:=by rcases he with rfl | rfl<;>rcases hs with h | h<;>rw [h]<;>decide
    rw [varR_nz h0,varR_nz (by rw [hq];exact hne),hq,if_neg (by omega),if_neg (by omega)]
    omega
end
theorem varR_even: ∀(l:List Rat) (s:Int),(s=1∨s= -1)→(varR s l % 2=0↔lasS s l=s)
 | [],s,_=>by simp [varR,lasS]
 | x::l,s,hs=>by
   have hx:=sgnR_three x
   by_cases h0:sgnR x=0
   ·rw [varR_z h0,show lasS s (x::l)=lasS s l from if_pos h0];exact varR_even l s hs
   ·rw [varR_nz h0,show lasS s (x::l)=lasS (sgnR x) l from if_neg h0]
    have ih:=varR_even l (sgnR x) (by omega)
    have h3:=lasS_three l (sgnR x) hx
    have hne:lasS (sgnR x) l≠0:=by
     have key: ∀(l:List Rat) (s:Int),s≠0→lasS s l≠0:=by
      intro l
      induction l with
      | nil=>intro s h;exact h
      | cons y l ih=>
        intro s h
        show (if sgnR y=0 then lasS s l else lasS (sgnR y) l)≠0
        split
        ·exact ih s h
        ·rename_i hy;exact ih _ hy
     exact key l _ h0
    generalize lasS (sgnR x) l=z at*
    generalize sgnR x=y at*
    generalize varR y l=v at*
    unfold S3 at h3
    by_cases h1:y= -s
    ·rw [if_pos h1]
     constructor
     ·intro h
      have: ¬z=y:=fun hh=>by have:=ih.2 hh;omega
      omega
     ·intro h
      have: ¬v % 2=0:=fun hh=>by have:=ih.1 hh;omega
      omega
    ·rw [if_neg h1,Nat.zero_add]
     have:y=s:=by omega
     subst this
     exact ih
def mulF (a b:Rat) (w:Nat→Rat) (k:Nat):Rat:=a*w k+b*(if k=0 then 0 else w (k-1))
theorem mulF_comm (a b c d:Rat) (w:Nat→Rat):mulF a b (mulF c d w)=mulF c d (mulF a b w):=by
 funext k
 unfold mulF
 by_cases h0:k=0
 ·simp only [if_pos h0];grind
 ·by_cases h1:k-1=0
  ·simp only [if_neg h0,if_pos h1];grind
  ·simp only [if_neg h0,if_neg h1];grind
theorem mulL_tab {a b:Rat} : ∀(m:Nat) (w:Nat→Rat) (p:Rat),mulL a b p (tab m w)=(tab m fun k=>a*w k+b*(if k=0 then p else w (k-1)))++ [b*(if m=0 then p else w (m-1))]
 | 0,w,p=>rfl
 | m+1,w,p=>by
   rw [tab_cons,tab_cons]
   show (a*w 0+b*p)::mulL a b (w 0) (tab m fun i=>w (i+1))=_
   rw [mulL_tab m]
   show _=(a*w 0+b*p)::(tab m (fun i=>a*w (i+1)+b*(if i+1=0 then p else w (i+1-1)))++ [b*(if m+1=0 then p else w (m+1-1))])
   congr 2
   ·refine tab_congr fun i hi=>?_
    rw [if_neg (show ¬i+1=0 by omega)]
    by_cases h:i=0
    ·subst h;rfl
    ·rw [if_neg h,show i-1+1=i+1-1 by omega]
   ·rw [if_neg (show ¬m+1=0 by omega)]
    by_cases h:m=0
    ·subst h;rfl
    ·rw [if_neg h,show m-1+1=m+1-1 by omega]
theorem mulL_fun {a b:Rat} {m:Nat} {w:Nat→Rat} (h:w (m+1)=0):mulL a b 0 (tab (m+1) w)=tab (m+2) (mulF a b w):=by
 rw [mulL_tab,←tab_succ (m:=m+1) (g:=mulF a b w),if_neg (by omega)]
 congr 2
 unfold mulF
 rw [h,if_neg (by omega)]
 grind
def prodF:List (Rat×Rat)→(Nat→Rat)→Nat→Rat
 | [],w=>w
 | f::l,w=>prodF l (mulF f.1 f.2 w)
theorem prodF_out: ∀(l:List (Rat×Rat)) (a b:Rat) (w:Nat→Rat),prodF l (mulF a b w)=mulF a b (prodF l w)
 | [],_,_,_=>rfl
 | f::l,a,b,w=>by
   show prodF l (mulF f.1 f.2 (mulF a b w))=mulF a b (prodF l (mulF f.1 f.2 w))
   rw [mulF_comm,prodF_out l]
theorem prodF_app: ∀(l:List (Rat×Rat)) (a b:Rat) (w:Nat→Rat),prodF (l++ [(a,b)]) w=mulF a b (prodF l w)
 | [],_,_,_=>rfl
 | f::l,a,b,w=>prodF_app l a b _
theorem prodF_sup: ∀(l:List (Rat×Rat)) (w:Nat→Rat) (m:Nat),(∀k,m<k→w k=0)→ ∀k,m+l.length<k→prodF l w k=0
 | [],w,m,h,k,hk=>h k hk
 | f::l,w,m,h,k,hk=>by
   refine prodF_sup l _ (m+1) (fun k hk=>?_) k (by rw [List.length_cons] at hk;omega)
   unfold mulF
   rw [h k (by omega),if_neg (by omega),h (k-1) (by omega)]
   grind
def posR (l:List (Rat×Rat)):Nat:=(l.filter fun f=>decide (sgnR f.1= -sgnR f.2)).length
abbrev Nz (l:List (Rat×Rat)):Prop:= ∀f∈l,sgnR f.1≠0∧sgnR f.2≠0
theorem posR_app {l m:List (Rat×Rat)} :posR (l++m)=posR l+posR m:=by unfold posR;rw [List.filter_append,List.length_append]
theorem posR_le: ∀(l:List (Rat×Rat)) (w:Nat→Rat) (m:Nat),Nz l→w 0≠0→(∀k,m<k→w k=0)→posR l≤varR 0 (tab (m+l.length+1) (prodF l w))
 | [],w,m,_,_,_=>Nat.zero_le _
 | f::l,w,m,hn,h0,hs=>by
   have hf:=hn f List.mem_cons_self
   have hl:Nz l:=fun g hg=>hn g (List.mem_cons_of_mem _ hg)
   have e1:posR (f::l)=posR [f]+posR l:=posR_app (l:= [f])
   have hlen:m+(f::l).length+1=m+l.length+2:=by rw [List.length_cons];omega
   rw [hlen,e1]
   by_cases hp:sgnR f.1= -sgnR f.2
   ·have e2:posR [f]=1:=by unfold posR;simp [hp]
    have ih:=posR_le l w m hl h0 hs
    have hne:prodF l w 0≠0:=by
     have key: ∀(l:List (Rat×Rat)) (w:Nat→Rat),Nz l→w 0≠0→prodF l w 0≠0:=by
      intro l
      induction l with
      | nil=>intro w _ h;exact h
      | cons g l ih=>
        intro w hg h
        refine ih _ (fun x hx=>hg x (List.mem_cons_of_mem _ hx)) ?_
        unfold mulF
        rw [if_pos rfl]
        have h1:=(hg g List.mem_cons_self).1
        have h2:g.1≠0:=fun hh=>h1 (sgnR_zero.2 hh)
        intro h3
        have h4:g.1*w 0=0:=by grind
        rcases Rat.mul_eq_zero.1 h4 with h5 | h5
        ·exact h2 h5
        ·exact h h5
     exact key l w hl h0
    have hsup:=prodF_sup l w m hs (m+l.length+1) (by omega)
    have h5:=sgnR_three f.1
    have:=mulL_more (a:=f.1) (b:=f.2) (e:=sgnR f.1) (by have:=hf.1;omega) rfl (by omega) (tab (m+l.length+1) (prodF l w)) ⟨prodF l w 0,by rw [tab_cons];exact List.mem_cons_self,fun hh=>hne (sgnR_zero.1 hh)⟩
    rw [mulL_fun hsup] at this
    show _≤varR 0 (tab (m+l.length+2) (prodF l (mulF f.1 f.2 w)))
    rw [prodF_out]
    omega
   ·have e2:posR [f]=0:=by unfold posR;simp [hp]
    have ih:=posR_le l (mulF f.1 f.2 w) (m+1) hl (by
     unfold mulF
     rw [if_pos rfl]
     have h2:f.1≠0:=fun hh=>hf.1 (sgnR_zero.2 hh)
     intro h3
     have h4:f.1*w 0=0:=by grind
     rcases Rat.mul_eq_zero.1 h4 with h5 | h5
     ·exact h2 h5
     ·exact h0 h5) (fun k hk=>by
     unfold mulF
     rw [hs k (by omega),if_neg (by omega),hs (k-1) (by omega)]
     grind)
    rw [show m+1+l.length+1=m+l.length+2 by omega] at ih
    rw [e2,Nat.zero_add]
    exact ih
theorem prodF_first: ∀(l:List (Rat×Rat)) (w:Nat→Rat),prodF l w 0=w 0*(l.foldr (fun f x=>f.1*x) 1)
 | [],w=>by show w 0=w 0*1;grind
 | f::l,w=>by
   show prodF l (mulF f.1 f.2 w) 0=w 0*(f.1*_)
   rw [prodF_first l]
   unfold mulF
   rw [if_pos rfl];grind
theorem prodF_last: ∀(l:List (Rat×Rat)) (w:Nat→Rat) (m:Nat),(∀k,m<k→w k=0)→prodF l w (m+l.length)=w m*(l.foldr (fun f x=>f.2*x) 1)
 | [],w,m,_=>by show w m=w m*1;grind
 | f::l,w,m,h=>by
   show prodF l (mulF f.1 f.2 w) (m+(l.length+1))=w m*(f.2*_)
   rw [show m+(l.length+1)=(m+1)+l.length by omega,prodF_last l _ (m+1) (fun k hk=>by
    unfold mulF
    rw [h k (by omega),if_neg (by omega),h (k-1) (by omega)]
    grind)]
   unfold mulF
   rw [if_neg (by omega),h (m+1) (by omega),show m+1-1=m by omega];grind
theorem fold_sgn: ∀(l:List (Rat×Rat)),Nz l→sgnR (l.foldr (fun f x=>f.1*x) 1)*sgnR (l.foldr (fun f x=>f.2*x) 1)=if posR l % 2=0 then 1 else-1
 | [],_=>rfl
 | f::l,h=>by
   show sgnR (f.1*_)*sgnR (f.2*_)=_
   rw [sgnR_mul,sgnR_mul]
   have ih:=fold_sgn l fun g hg=>h g (List.mem_cons_of_mem _ hg)
   have hf:=h f List.mem_cons_self
   have e1:posR (f::l)=posR [f]+posR l:=posR_app (l:= [f])
   have h1:=sgnR_three f.1
   have h2:=sgnR_three f.2
   generalize sgnR (l.foldr (fun f x=>f.1*x) 1)=x at*
   generalize sgnR (l.foldr (fun f x=>f.2*x) 1)=y at*
   have e3:sgnR f.1*x*(sgnR f.2*y)=sgnR f.1*sgnR f.2*(x*y):=by grind
   rw [e3,ih,e1]
   by_cases hp:sgnR f.1= -sgnR f.2
   ·have e2:posR [f]=1:=by unfold posR;simp [hp]
    rw [e2,hp]
    have:sgnR f.2=1∨sgnR f.2= -1:=by omega
    have e4: -sgnR f.2*sgnR f.2= -1:=by rcases this with h | h<;>rw [h]<;>decide
    rw [e4]
    by_cases h5:posR l % 2=0
    ·rw [if_pos h5,if_neg (by omega)];decide
    ·rw [if_neg h5,if_pos (by omega)];decide
   ·have e2:posR [f]=0:=by unfold posR;simp [hp]
    have e5:sgnR f.1=sgnR f.2:=by omega
    rw [e2,e5,Nat.zero_add]
    have:sgnR f.2=1∨sgnR f.2= -1:=by omega
    have e4:sgnR f.2*sgnR f.2=1:=by rcases this with h | h<;>rw [h]<;>decide
    rw [e4,Int.one_mul]
theorem lasS_last: ∀(l:List Rat) (s:Int) (x:Rat),sgnR x≠0→lasS s (l++ [x])=sgnR x
 | [],s,x,h=>if_neg h
 | y::l,s,x,h=>by
   show (if sgnR y=0 then lasS s (l++ [x]) else lasS (sgnR y) (l++ [x]))=_
   split
   ·exact lasS_last l s x h
   ·exact lasS_last l _ x h
theorem descartes {l:List (Rat×Rat)} {c:Rat} (hn:Nz l) (hc:c≠0):posR l≤varR 0 (tab (l.length+1) (prodF l fun k=>if k=0 then c else 0))∧varR 0 (tab (l.length+1) (prodF l fun k=>if k=0 then c else 0)) % 2=posR l % 2:=by
 have hs: ∀k,0<k→(fun k=>if k=0 then c else (0:Rat)) k=0:=fun k hk=>if_neg (by omega)
 constructor
 ·have:=posR_le l (fun k=>if k=0 then c else 0) 0 hn (by simpa using hc) hs
  rw [Nat.zero_add] at this
  exact this
 ·have hF:=prodF_first l fun k=>if k=0 then c else 0
  have hL:=prodF_last l (fun k=>if k=0 then c else 0) 0 hs
  rw [Nat.zero_add] at hL
  simp only [if_true] at hF hL
  have hg:=fold_sgn l hn
  generalize prodF l (fun k=>if k=0 then c else 0)=w at*
  have hcs:sgnR c=1∨sgnR c= -1:=by
   have:=sgnR_three c
   have h0:sgnR c≠0:=fun hh=>hc (sgnR_zero.1 hh)
   omega
  have h1:=sgnR_mul c (l.foldr (fun f x=>f.1*x) 1)
  have h2:=sgnR_mul c (l.foldr (fun f x=>f.2*x) 1)
  rw [←hF] at h1
  rw [←hL] at h2
  have h3:=sgnR_three (w 0)
  have h4:=sgnR_three (w l.length)
  have hprod:sgnR (w 0)*sgnR (w l.length)=if posR l % 2=0 then 1 else-1:=by
   rw [h1,h2,←hg]
   rcases hcs with h | h<;>rw [h]<;>grind
  have hw0:sgnR (w 0)≠0:=fun hh=>by rw [hh,Int.zero_mul] at hprod;split at hprod<;>omega
  have hwl:sgnR (w l.length)≠0:=fun hh=>by rw [hh,Int.mul_zero] at hprod;split at hprod<;>omega
  have key:varR 0 (tab (l.length+1) w) % 2=0↔sgnR (w l.length)=sgnR (w 0):=by
   have hlast:lasS 0 (tab (l.length+1) w)=sgnR (w l.length):=by rw [←tab_succ];exact lasS_last _ _ _ hwl
   rw [tab_cons] at hlast⊢
   rw [varR_nz hw0,if_neg (by omega),Nat.zero_add]
   have h5:lasS 0 (w 0::tab l.length fun i=>w (i+1))=lasS (sgnR (w 0)) (tab l.length fun i=>w (i+1)):=if_neg hw0
   rw [h5] at hlast
   rw [←hlast]
   exact varR_even _ _ (by omega)
  by_cases h5:posR l % 2=0
  ·rw [if_pos h5] at hprod
   rw [h5]
   refine key.2 ?_
   rcases h3 with h | h | h<;>rcases h4 with k | k | k<;>rw [h,k] at hprod⊢ <;>omega
  ·rw [if_neg h5] at hprod
   have: ¬varR 0 (tab (l.length+1) w) % 2=0:=fun hh=>by
    have hk:=key.1 hh
    rcases h3 with h | h | h<;>rcases h4 with k | k | k<;>rw [h,k] at hprod hk<;>omega
   omega
end Go.Proofs.YtnkobfcnflphkaaGreatDoor
namespace Go.Proofs.YtnkobfcnflphkaaGreatDoor
set_option linter.unusedVariables false
set_option linter.unusedSimpArgs false
section
variable {u d t:Rat} {f g:Nat→Rat} {m n:Nat}
end
abbrev ntQ (i:Nat):Rat:=((i:Int):Rat)
theorem cas_between {lo hi t:Rat} {f:Nat→Rat} {n:Nat} (h0:0≤t) (h1:t≤1) (hf: ∀i,i≤n→lo≤f i∧f i≤hi): ∀k i,k+i≤n→lo≤casR t (1-t) f k i∧casR t (1-t) f k i≤hi
 | 0,i,h=>hf i (by omega)
 | k+1,i,h=>by
   have a:=cas_between h0 h1 hf k i (by omega)
   have b:=cas_between h0 h1 hf k (i+1) (by omega)
   have hd:0≤1-t:=by grind
   show lo≤(1-t)*casR t (1-t) f k i+t*casR t (1-t) f k (i+1)∧(1-t)*casR t (1-t) f k i+t*casR t (1-t) f k (i+1)≤hi
   generalize casR t (1-t) f k i=x at*
   generalize casR t (1-t) f k (i+1)=y at*
   have e1:=Rat.mul_nonneg hd (show 0≤x-lo by grind)
   have e2:=Rat.mul_nonneg h0 (show 0≤y-lo by grind)
   have e3:=Rat.mul_nonneg hd (show 0≤hi-x by grind)
   have e4:=Rat.mul_nonneg h0 (show 0≤hi-y by grind)
   have g1:(1-t)*x+t*y-lo=(1-t)*(x-lo)+t*(y-lo):=by grind
   have g2:hi-((1-t)*x+t*y)=(1-t)*(hi-x)+t*(hi-y):=by grind
   generalize (1-t)*x+t*y=z at*
   generalize (1-t)*(x-lo)=p1 at*
   generalize t*(y-lo)=p2 at*
   generalize (1-t)*(hi-x)=p3 at*
   generalize t*(hi-y)=p4 at*
   constructor<;>grind
end Go.Proofs.YtnkobfcnflphkaaGreatDoor
