/-
  Several texts in one: Zm, Zn, Zp, Zq, Zx.
-/
import Derived.Test.YtnkobfcnflphkaaGreatDoorBj
namespace Go.Proofs.YtnkobfcnflphkaaGreatDoor
set_option linter.unusedVariables false
set_option linter.unusedSimpArgs false
def tab {α:Type} (m:Nat) (g:Nat→α):List α:=(List.range m).map g
section
variable {α β:Type} {m i q:Nat} {g h:Nat→α} {x:α}
@[simp] theorem tab_len:(tab m g).length=m:=by unfold tab;simp
theorem tab_get?:(tab m g)[q]?=if q<m then some (g q) else none:=by
 unfold tab
 rw [List.getElem?_map]
 by_cases h:q<m
 ·rw [if_pos h,List.getElem?_range h];rfl
 ·rw [if_neg h,List.getElem?_eq_none (by simpa using h)];rfl
theorem tab_get (hq:q<m):(tab m g)[q]?=some (g q):=by rw [tab_get?,if_pos hq]
theorem tab_at (hq:q<m):(tab m g)[((q:Nat):Int).toNat]?=some (g q):=by rw [Int.toNat_natCast];exact tab_get hq
theorem tab_eq {l:List α} (hl:l.length=m) (h: ∀q,q<m→l[q]?=some (g q)):l=tab m g:=by
 refine List.ext_getElem? fun q=>?_
 rw [tab_get?]
 by_cases hq:q<m
 ·rw [if_pos hq,h q hq]
 ·rw [if_neg hq,List.getElem?_eq_none (by omega)]
theorem tab_congr (he: ∀q,q<m→g q=h q):tab m g=tab m h:=tab_eq tab_len fun q hq=>by rw [tab_get hq,he q hq]
theorem tab_set (hi:i<m) (h1:h i=x) (h2: ∀q,q<m→q≠i→h q=g q):(tab m g).set i x=tab m h:=tab_eq (by simp) fun q hq=>by
 by_cases hqi:q=i
 ·subst hqi
  rw [List.getElem?_set_self (by simpa using hq),h1]
 ·rw [List.getElem?_set_ne (Ne.symm hqi),tab_get hq,h2 q hq hqi]
theorem tab_succ:tab m g++ [g m]=tab (m+1) g:=by unfold tab;rw [List.range_succ,List.map_append];rfl
theorem tab_of (d:α) (l:List α):tab l.length (fun i=>l.getD i d)=l:=(tab_eq rfl fun q hq=>by
 rw [List.getD_eq_getElem?_getD,List.getElem?_eq_getElem hq];rfl).symm
theorem tab_map (f:α→β):(tab m g).map f=tab m fun i=>f (g i):=by unfold tab;rw [List.map_map];rfl
theorem map_tab (f:α→β) (d:α) (l:List α):l.map f=tab l.length fun i=>f (l.getD i d):=by
 have:=congrArg (List.map f) (tab_of d l)
 rw [tab_map] at this
 exact this.symm
theorem tab_rep:List.replicate m x=tab m fun _=>x:=tab_eq (by simp) fun q hq=>by rw [List.getElem?_replicate,if_pos hq]
theorem tab_getD (d:α) (hq:q<m):(tab m g).getD q d=g q:=by rw [List.getD_eq_getElem?_getD,tab_get hq];rfl
end
def casR (u d:Rat) (f:Nat→Rat):Nat→Nat→Rat
 | 0,i=>f i
 | k+1,i=>d*casR u d f k i+u*casR u d f k (i+1)
def casI (u d:Rat) (f:Nat→Rat) (n s i:Nat) (q:Nat):Rat:=if q<i then casR u d f (s+1) q else if q+s≤n then casR u d f s q else casR u d f (n-q) q
section
variable {u d z s:Rat} {f g:Nat→Rat} {n k i q t:Nat}
theorem casI_start:tab (n+1) (casI u d f n 0 0)=tab (n+1) f:=tab_congr fun q hq=>by unfold casI;rw [if_neg (by omega),if_pos (by omega)];rfl
theorem casI_step (h:k<n):tab (n+1) (casI u d f n k (n-k))=tab (n+1) (casI u d f n (k+1) 0):=tab_congr fun q hq=>by
 unfold casI
 rw [if_neg (Nat.not_lt_zero q)]
 by_cases h1:q<n-k
 ·rw [if_pos h1,if_pos (by omega)]
 ·rw [if_neg h1]
  by_cases h2:q+k≤n
  ·rw [if_pos h2,if_neg (by omega),show n-q=k by omega]
  ·rw [if_neg h2,if_neg (by omega)]
theorem casI_end:tab (n+1) (casI u d f n n 0)=tab (n+1) fun q=>casR u d f (n-q) q:=tab_congr fun q hq=>by
 unfold casI
 rw [if_neg (Nat.not_lt_zero q)]
 by_cases h2:q+n≤n
 ·rw [if_pos h2]
  have:q=0:=by omega
  subst this
  rfl
 ·rw [if_neg h2]
theorem casI_set (h:i+k<n) (hx:s=d*casR u d f k i+u*casR u d f k (i+1)):(tab (n+1) (casI u d f n k i)).set i s=tab (n+1) (casI u d f n k (i+1)):=
 tab_set (by omega) (by unfold casI;rw [if_pos (by omega),hx];rfl) fun q hq hqi=>by
  unfold casI
  by_cases h1:q<i
  ·rw [if_pos h1,if_pos (by omega)]
  ·rw [if_neg h1,if_neg (by omega)]
theorem casI_at (h:q+k≤n) (hi:i≤q):casI u d f n k i q=casR u d f k q:=by
 unfold casI
 rw [if_neg (by omega),if_pos h]
theorem casR_scale (u d s z:Rat) (f:Nat→Rat): ∀(k i:Nat),casR (u*z) (d*z) (fun i=>s*f i) k i=s*z^k*casR u d f k i
 | 0,i=>by show s*f i=s*z^0*f i;rw [Rat.pow_zero,Rat.mul_one]
 | k+1,i=>by
   show d*z*casR (u*z) (d*z) _ k i+u*z*casR (u*z) (d*z) _ k (i+1)=s*z^(k+1)*(d*casR u d f k i+u*casR u d f k (i+1))
   rw [casR_scale u d s z f k i,casR_scale u d s z f k (i+1),Rat.pow_succ]
   grind
end
theorem rat_den (x:Rat):x*((x.den:Int):Rat)=((x.num:Int):Rat):=by
 have h0:((x.den:Int):Rat)≠0:=by
  intro h
  have:x.den=0:=by exact_mod_cast h
  exact x.den_nz this
 have h:=Rat.mkRat_self x
 rw [Rat.mkRat_eq_div] at h
 rw [←Rat.intCast_natCast] at h
 generalize ((x.den:Int):Rat)=d at*
 generalize ((x.num:Int):Rat)=m at*
 rw [←h]
 grind
theorem Sz.pow {a E:Nat} (h:Sz a E): ∀k:Nat,Sz (k*a+1) (E^k)
 | 0=>by rw [Nat.pow_zero];exact length_toL_le _ _ (by rw [Nat.zero_mul,Nat.zero_add];decide)
 | k+1=>by
   rw [Nat.pow_succ]
   exact (Sz.mul (Sz.pow h k) h).mono (by rw [Nat.succ_mul];omega)
def IB (D B:Nat) (x:Rat):Prop:= ∃k:Int,x*((D:Int):Rat)=(k:Rat)∧k.natAbs≤B
theorem IB.rsz {D B J:Nat} {x:Rat} (h:IB D B x) (hD:0<D) (h1:Sz J D) (h2:Sz J B):RSz J x:=by
 obtain ⟨k,hk,hb⟩:=h
 have h0:((D:Int):Rat)≠0:=by
  intro h
  have:(D:Int)=0:=by exact_mod_cast h
  omega
 have e:x=mkRat k D:=by
  rw [Rat.mkRat_eq_div,←hk,Rat.intCast_natCast]
  rw [Rat.intCast_natCast] at h0
  grind
 rw [e]
 exact RSz.of_mkRat (h2.le hb) h1 (by omega)
theorem IB.mono {D B B':Nat} {x:Rat} (h:IB D B x) (hb:B≤B'):IB D B' x:=by
 obtain ⟨k,h1,h2⟩:=h
 exact ⟨k,h1,Nat.le_trans h2 hb⟩
theorem natAbs_comb (a b c d:Int):(a*b+c*d).natAbs≤a.natAbs*b.natAbs+c.natAbs*d.natAbs:=by
 rw [←Int.natAbs_mul,←Int.natAbs_mul]
 exact Int.natAbs_add_le _ _
theorem casR_ib {u d:Rat} {f:Nat→Rat} {D B E U V n:Nat} (hf: ∀i,i≤n→IB D B (f i)) (hu:IB E U u) (hd:IB E V d): ∀(k i:Nat),k+i≤n→IB (D*E^k) (B*(U+V)^k) (casR u d f k i)
 | 0,i,h=>by rw [Nat.pow_zero,Nat.pow_zero,Nat.mul_one,Nat.mul_one];exact hf i (by omega)
 | k+1,i,h=>by
   obtain ⟨a,ha,hab⟩:=casR_ib hf hu hd k i (by omega)
   obtain ⟨b,hb,hbb⟩:=casR_ib hf hu hd k (i+1) (by omega)
   obtain ⟨p,hp,hpb⟩:=hu
   obtain ⟨q,hq,hqb⟩:=hd
   refine ⟨q*a+p*b,?_,?_⟩
   ·have e:((D*E^(k+1):Nat):Int)=(D*E^k:Nat)*(E:Nat):=by rw [Nat.pow_succ,←Nat.mul_assoc,Int.natCast_mul]
    show (d*casR u d f k i+u*casR u d f k (i+1))*(((D*E^(k+1):Nat):Int):Rat)=_
    rw [e,Rat.intCast_mul,Rat.intCast_add,Rat.intCast_mul,Rat.intCast_mul,←ha,←hb,←hp,←hq]
    grind
   ·refine Nat.le_trans (natAbs_comb _ _ _ _) ?_
    have h1:=Nat.mul_le_mul hqb hab
    have h2:=Nat.mul_le_mul hpb hbb
    rw [Nat.pow_succ]
    have:B*((U+V)^k*(U+V))=V*(B*(U+V)^k)+U*(B*(U+V)^k):=by
     rw [←Nat.mul_assoc,Nat.mul_add,Nat.mul_comm V,Nat.mul_comm U,Nat.add_comm]
    omega
def denQ (x:Rat):Rat:=((x.den:Int):Rat)
theorem denQ_pos (x:Rat):0<denQ x:=by
 unfold denQ
 have h:(0:Int)<(x.den:Int):=by have:=x.den_pos;omega
 have:=Rat.intCast_lt_intCast.2 h
 simpa using this
def whS:Rat→List Rat→Rat
 | s,[]=>s
 | s,r::l=>whS (s*denQ (s*r)) l
theorem den_dvd {x:Rat} {k:Nat} {z:Int} (hk:0<k) (h:x*((k:Int):Rat)=(z:Rat)):x.den∣k:=by
 have h0:((x.den:Int):Rat)≠0:=by have:=denQ_pos x;unfold denQ at this;grind
 have h1:x*((x.den:Int):Rat)=((x.num:Int):Rat):=rat_den _
 have h2:((x.num*k:Int):Rat)=((z*x.den:Int):Rat):=by
  rw [Rat.intCast_mul,Rat.intCast_mul,←h1,←h]
  grind
 have h3:x.num*k=z*x.den:=Rat.intCast_inj.1 h2
 have h4:x.den∣x.num.natAbs*k:=by
  refine ⟨z.natAbs,?_⟩
  have:=congrArg Int.natAbs h3
  rw [Int.natAbs_mul,Int.natAbs_mul] at this
  simpa [Nat.mul_comm] using this
 exact (Nat.Coprime.symm x.reduced).dvd_of_dvd_mul_left h4
theorem den_mul_int (m:Nat) (r:Rat):(((m:Int):Rat)*r).den∣r.den:=by
 have h1:r*((r.den:Int):Rat)=((r.num:Int):Rat):=rat_den _
 refine den_dvd r.den_pos (z:=m*r.num) ?_
 rw [Rat.intCast_mul,←h1]
 grind
theorem rsz_nat {a m:Nat} (h:Sz a m) (h1:1≤a):RSz a ((m:Int):Rat):=by
 have e:((m:Int):Rat)=mkRat m 1:=by rw [Rat.mkRat_one]
 rw [e]
 exact RSz.of_mkRat (by simpa using h) (length_toL_le _ _ (by
  have:(4294967296:Nat)^a≥4294967296^1:=Nat.pow_le_pow_right (by decide) h1
  omega)) (by decide)
theorem whS_step {m a j:Nat} {r:Rat} (hm:0<m) (ha:Sz a m) (hr:RSz j r): ∃n:Nat,0<n∧((m:Int):Rat)*denQ (((m:Int):Rat)*r)=((n:Int):Rat)∧Sz (a+j) n:=by
 have hd:=den_mul_int m r
 refine ⟨m*(((m:Int):Rat)*r).den,Nat.mul_pos hm (Rat.den_pos _),?_,ha.mul (hr.2.le (Nat.le_of_dvd r.den_pos hd))⟩
 unfold denQ
 rw [Int.natCast_mul,Rat.intCast_mul]
theorem whS_spec {j:Nat} : ∀(l:List Rat) (m a:Nat),0<m→Sz a m→(∀r∈l,RSz j r)→ ∃M:Nat,0<M∧m∣M∧whS ((m:Int):Rat) l=((M:Int):Rat)∧Sz (a+l.length*j) M∧ ∀r∈l,∃z:Int,((M:Int):Rat)*r=(z:Rat)
 | [],m,a,hm,ha,_=>⟨m,hm,Nat.dvd_refl _,rfl,by simpa using ha,fun r hr=>by cases hr⟩
 | r::l,m,a,hm,ha,hj=>by
   have hd:=den_mul_int m r
   obtain ⟨e,he⟩: ∃e,e=(((m:Int):Rat)*r).den:=⟨_,rfl⟩
   have hep:0<e:=by rw [he];exact Rat.den_pos _
   have hes:Sz j e:=(hj r List.mem_cons_self).2.le (Nat.le_of_dvd r.den_pos (he▸hd))
   obtain ⟨M,h1,h2,h3,h4,h5⟩:=whS_spec (j:=j) l (m*e) (a+j) (Nat.mul_pos hm hep) (ha.mul hes) fun r hr=>hj r (List.mem_cons_of_mem _ hr)
   have e1:((m:Int):Rat)*denQ (((m:Int):Rat)*r)=(((m*e:Nat):Int):Rat):=by
    unfold denQ
    rw [←he,Int.natCast_mul,Rat.intCast_mul]
   refine ⟨M,h1,Nat.dvd_trans (Nat.dvd_mul_right m e) h2,?_,h4.mono (by rw [List.length_cons,Nat.succ_mul];omega),fun x hx=>?_⟩
   ·show whS (((m:Int):Rat)*denQ (((m:Int):Rat)*r)) l=_
    rw [e1];exact h3
   ·rcases List.mem_cons.1 hx with rfl | hx
    ·obtain ⟨c,hc⟩:=h2
     have h6:((m:Int):Rat)*x*((e:Int):Rat)=(((((m:Int):Rat)*x).num:Int):Rat):=by rw [he];exact rat_den _
     refine ⟨c*(((m:Int):Rat)*x).num,?_⟩
     rw [hc,Rat.intCast_mul,←h6,Int.natCast_mul,Int.natCast_mul,Rat.intCast_mul,Rat.intCast_mul]
     grind
    ·exact h5 x hx
end Go.Proofs.YtnkobfcnflphkaaGreatDoor
namespace Go.Proofs.YtnkobfcnflphkaaGreatDoor
set_option linter.unusedVariables false
set_option linter.unusedSimpArgs false
def bin:Nat→Nat→Nat
 | _,0=>1
 | 0,_+1=>0
 | n+1,k+1=>bin n k+bin n (k+1)
theorem bin_zero (n:Nat):bin n 0=1:=by cases n<;>rfl
theorem bin_over: ∀ {n k:Nat},n<k→bin n k=0
 | 0,k+1,_=>rfl
 | n+1,k+1,h=>by show bin n k+bin n (k+1)=0;rw [bin_over (by omega),bin_over (by omega)]
theorem bin_self: ∀n:Nat,bin n n=1
 | 0=>rfl
 | n+1=>by show bin n n+bin n (n+1)=1;rw [bin_self n,bin_over (by omega)]
theorem bin_pos: ∀ {n k:Nat},k≤n→0<bin n k
 | n,0,_=>by rw [bin_zero];exact Nat.zero_lt_one
 | n+1,k+1,h=>by show 0<bin n k+bin n (k+1);have:=bin_pos (n:=n) (k:=k) (by omega);omega
theorem bin_le: ∀n k:Nat,bin n k≤2^n
 | n,0=>by rw [bin_zero];exact Nat.one_le_two_pow
 | 0,k+1=>by show 0≤_;exact Nat.zero_le _
 | n+1,k+1=>by
   show bin n k+bin n (k+1)≤_
   have h1:=bin_le n k
   have h2:=bin_le n (k+1)
   rw [Nat.pow_succ];omega
abbrev binQ (n k:Nat):Rat:=((bin n k:Int):Rat)
theorem binQ_ne {n k:Nat} (h:k≤n):binQ n k≠0:=by
 intro h0
 have h1:((bin n k:Int):Rat)=((0:Int):Rat):=h0
 have:=Rat.intCast_inj.1 h1
 have:=bin_pos h
 omega
def convR (a b:Nat→Rat) (n:Nat):Nat→Nat→Rat
 | 0,_=>0
 | i+1,k=>convR a b n i k+(if i≤k∧k≤i+n then a i*b (k-i) else 0)
def convI (a b:Nat→Rat) (n i j:Nat) (k:Nat):Rat:=convR a b n i k+(if i≤k∧k<i+j then a i*b (k-i) else 0)
section
variable {a b:Nat→Rat} {m n i j k N:Nat}
theorem convI_start:tab N (convI a b n i 0)=tab N (convR a b n i):=tab_congr fun k _=>by
 unfold convI
 rw [if_neg (by omega)]
 exact Rat.add_zero _
theorem convI_end:tab N (convI a b n i (n+1))=tab N (convR a b n (i+1)):=tab_congr fun k _=>by
 unfold convI
 show _=convR a b n i k+_
 by_cases h:i≤k∧k≤i+n
 ·rw [if_pos h,if_pos ⟨h.1,by omega⟩]
 ·rw [if_neg h,if_neg (fun hh=>h ⟨hh.1,by omega⟩)]
theorem convI_at:convI a b n i j (i+j)=convR a b n i (i+j):=by
 unfold convI
 rw [if_neg (by omega)]
 exact Rat.add_zero _
theorem convI_set {x:Rat} (h:i+j<N) (hx:x=convI a b n i j (i+j)+a i*b j):(tab N (convI a b n i j)).set (i+j) x=tab N (convI a b n i (j+1)):=
 tab_set h (by
  rw [hx,convI_at]
  unfold convI
  rw [if_pos ⟨by omega,by omega⟩,show i+j-i=j by omega]) fun q hq hqi=>by
  unfold convI
  congr 1
  by_cases h:i≤q∧q<i+j
  ·rw [if_pos h,if_pos ⟨h.1,by omega⟩]
  ·rw [if_neg h,if_neg (fun hh=>h ⟨hh.1,by omega⟩)]
theorem convR_scale (s t:Rat): ∀(i k:Nat),convR (fun i=>s*a i) (fun i=>t*b i) n i k=s*t*convR a b n i k
 | 0,k=>by show (0:Rat)=s*t*0;grind
 | i+1,k=>by
   show convR _ _ n i k+_=s*t*(convR a b n i k+_)
   rw [convR_scale s t i k]
   split<;>grind
theorem convR_congr {a' b':Nat→Rat} : ∀ {i k:Nat},(∀q,q<i→a q=a' q)→(∀q,q≤n→b q=b' q)→convR a b n i k=convR a' b' n i k
 | 0,_,_,_=>rfl
 | i+1,k,h1,h2=>by
   show convR a b n i k+_=convR a' b' n i k+_
   rw [convR_congr (i:=i) (fun q hq=>h1 q (by omega)) h2]
   congr 1
   by_cases h:i≤k∧k≤i+n
   ·rw [if_pos h,if_pos h,h1 i (by omega),h2 (k-i) (by omega)]
   ·rw [if_neg h,if_neg h]
end
def smpR (f:Nat→Rat):Nat→Nat→Rat
 | m,0=>f m
 | m,d+1=>smpR f m d+smpR f (m+1) d
theorem smpR_scale (s:Rat) (f:Nat→Rat): ∀(d m:Nat),smpR (fun i=>s*f i) m d=s*smpR f m d
 | 0,_=>rfl
 | d+1,m=>by
   show smpR _ m d+smpR _ (m+1) d=s*(smpR f m d+smpR f (m+1) d)
   rw [smpR_scale s f d,smpR_scale s f d]
   grind
end Go.Proofs.YtnkobfcnflphkaaGreatDoor
namespace Go.Proofs.YtnkobfcnflphkaaGreatDoor
set_option linter.unusedVariables false
set_option linter.unusedSimpArgs false
def lowR (t:Rat) (f:Nat→Rat) (i:Nat):Rat:=casR t (1-t) f i 0
def uppR (t:Rat) (f:Nat→Rat) (n i:Nat):Rat:=casR t (1-t) f (n-i) i
theorem rat_pow_ne {z:Rat} (h:z≠0): ∀k:Nat,z^k≠0
 | 0=>by rw [Rat.pow_zero];decide
 | k+1=>by
   rw [Rat.pow_succ]
   have:=rat_pow_ne h k
   intro h0
   rcases Rat.mul_eq_zero.1 h0 with h1 | h1
   ·exact this h1
   ·exact h h1
theorem rat_mul_ne {x y:Rat} (h:x≠0) (k:y≠0):x*y≠0:=fun h0=>by
 rcases Rat.mul_eq_zero.1 h0 with h1 | h1
 ·exact h h1
 ·exact k h1
theorem mul_div_self {x y:Rat} (h:x≠0):x*y/x=y:=by grind
section
variable {s z t u d:Rat} {f:Nat→Rat} {n i:Nat}
theorem cas_low (hs:s≠0) (hz:z≠0) (hu:u=t*z) (hd:d=z-u):casR u d (fun i=>s*f i) i 0/(s*z^i)=lowR t f i:=by
 have e:d=(1-t)*z:=by rw [hd,hu];grind
 rw [e,hu,casR_scale]
 exact mul_div_self (rat_mul_ne hs (rat_pow_ne hz i))
theorem cas_upp (hs:s≠0) (hz:z≠0) (hu:u=t*z) (hd:d=z-u):casR u d (fun i=>s*f i) (n-i) i/(s*z^(n-i))=uppR t f n i:=by
 have e:d=(1-t)*z:=by rw [hd,hu];grind
 rw [e,hu,casR_scale]
 exact mul_div_self (rat_mul_ne hs (rat_pow_ne hz _))
end
end Go.Proofs.YtnkobfcnflphkaaGreatDoor
namespace Go.Proofs.YtnkobfcnflphkaaGreatDoor
set_option linter.unusedVariables false
set_option linter.unusedSimpArgs false
theorem natQ_ne {n:Nat} (h:0<n):((n:Int):Rat)≠0:=fun h0=>by
 have h1:((n:Int):Rat)=((0:Int):Rat):=h0
 have:=Rat.intCast_inj.1 h1
 omega
end Go.Proofs.YtnkobfcnflphkaaGreatDoor
namespace Go.Proofs.YtnkobfcnflphkaaGreatDoor
set_option linter.unusedVariables false
set_option linter.unusedSimpArgs false
section
variable {f g:Nat→Rat} {n o i q:Nat} {x:Rat}
def smI (f:Nat→Rat) (o i q:Nat):Rat:=if q<o then f q else if q<i then smpR f (o-1) (q-o+1) else smpR f o (q-o)
theorem smI_start:tab (n+1) (smI f n n)=tab (n+1) f:=tab_congr fun q hq=>by
 unfold smI
 by_cases h:q<n
 ·rw [if_pos h]
 ·rw [if_neg h,if_neg h,show q=n by omega,Nat.sub_self];rfl
theorem smI_next (h:0<o):tab (n+1) (smI f o (n+1))=tab (n+1) (smI f (o-1) (o-1)):=tab_congr fun q hq=>by
 unfold smI
 by_cases h1:q<o
 ·rw [if_pos h1]
  by_cases h2:q<o-1
  ·rw [if_pos h2]
  ·rw [if_neg h2,if_neg h2,show q=o-1 by omega,Nat.sub_self];rfl
 ·rw [if_neg h1,if_pos hq,if_neg (by omega),if_neg (by omega),show q-(o-1)=q-o+1 by omega]
theorem smI_end:tab (n+1) (smI f 0 0)=tab (n+1) fun q=>smpR f 0 q:=tab_congr fun q hq=>by
 unfold smI
 rw [if_neg (by omega),if_neg (by omega)];rfl
theorem smI_set (h:0<o) (hoi:o≤i) (hi:i≤n) (hx:x=smI f o i i+smI f o i (i-1)):(tab (n+1) (smI f o i)).set i x=tab (n+1) (smI f o (i+1)):=
 tab_set (by omega) (by
  have e1:smI f o i i=smpR f o (i-o):=by unfold smI;rw [if_neg (by omega),if_neg (by omega)]
  have e2:smI f o i (i-1)=smpR f (o-1) (i-o):=by
   unfold smI
   by_cases h1:i-1<o
   ·rw [if_pos h1,show i-1=o-1 by omega,show i-o=0 by omega];rfl
   ·rw [if_neg h1,if_pos (by omega),show i-1-o+1=i-o by omega]
  rw [hx,e1,e2]
  unfold smI
  rw [if_neg (by omega),if_pos (by omega)]
  show smpR f (o-1) (i-o)+smpR f (o-1+1) (i-o)=_
  rw [show o-1+1=o by omega]
  exact Rat.add_comm _ _) fun q hq hqi=>by
  unfold smI
  by_cases h1:q<o
  ·rw [if_pos h1,if_pos h1]
  ·rw [if_neg h1,if_neg h1]
   by_cases h2:q<i
   ·rw [if_pos h2,if_pos (by omega)]
   ·rw [if_neg h2,if_neg (by omega)]
theorem smpR_congr: ∀ {d m:Nat},(∀j,j≤m+d→f j=g j)→smpR f m d=smpR g m d
 | 0,m,h=>h m (by omega)
 | d+1,m,h=>by
   show smpR f m d+smpR f (m+1) d=smpR g m d+smpR g (m+1) d
   rw [smpR_congr (d:=d) (m:=m) fun j hj=>h j (by omega),smpR_congr (d:=d) (m:=m+1) fun j hj=>h j (by omega)]
end
def ofPw (c:Nat→Rat) (n i:Nat):Rat:=smpR (fun k=>c k/binQ n k) 0 i
theorem ofPw_scaled {s:Rat} {c:Nat→Rat} {n i:Nat} (hs:s≠0):smpR (fun k=>s*(c k/binQ n k)) 0 i/s=ofPw c n i:=by
 rw [smpR_scale]
 unfold ofPw
 grind
end Go.Proofs.YtnkobfcnflphkaaGreatDoor
