/-
  Several texts in one: Zm, Zn, Zp, Zq, Zx, Zy, Zz.
-/
import Derived.Test.YtfineedhebhpaaaGreatDoorBj
import Derived.Test.YtfineedhebhpaaaGreatDoorGr
namespace Go.Proofs.YtfineedhebhpaaaGreatDoor
open List renaming getElem?_eq_getElem→Yv
open Nat renaming le_refl→Yu
set_option linter.unusedVariables false
set_option linter.unusedSimpArgs false
def tab {α:Type} (m:Nat) (g:Nat→α):List α:=(List.range m).map g
section
variable {α β:Type} {m i q:Nat} {g h:Nat→α} {x:α}
@[simp] theorem BC:(tab m g).length=m:=by unfold tab;simp
theorem tab_get?:(tab m g)[q]?=if q<m then some (g q) else none:=by
 unfold tab
 rw [List.getElem?_map]
 by_cases h:q<m
 ·rw [if_pos h,List.getElem?_range h];rfl
 ·rw [if_neg h,List.getElem?_eq_none (by simpa using h)];rfl
theorem EJ (hq:q<m):(tab m g)[q]?=some (g q):=by rw [tab_get?,if_pos hq]
theorem CG (hq:q<m):(tab m g)[((q:Nat):Int).toNat]?=some (g q):=by rw [Int.toNat_natCast];exact EJ hq
theorem Jh {l:List α} (hl:l.length=m) (h: ∀q,q<m→l[q]?=some (g q)):l=tab m g:=by
 refine List.ext_getElem? fun q=>?_
 rw [tab_get?]
 by_cases hq:q<m
 ·rw [if_pos hq,h q hq]
 ·rw [if_neg hq,List.getElem?_eq_none (by omega)]
theorem AL (he: ∀q,q<m→g q=h q):tab m g=tab m h:=Jh BC fun q hq=>by rw [EJ hq,he q hq]
theorem Dm (hi:i<m) (h1:h i=x) (h2: ∀q,q<m→q≠i→h q=g q):(tab m g).set i x=tab m h:=Jh (by simp) fun q hq=>by
 by_cases hqi:q=i
 ·subst hqi
  rw [List.getElem?_set_self (by simpa using hq),h1]
 ·rw [List.getElem?_set_ne (Ne.symm hqi),EJ hq,h2 q hq hqi]
theorem Fg:tab m g++ [g m]=tab (m+1) g:=by unfold tab;rw [List.range_succ,List.map_append];rfl
theorem OB (d:α) (l:List α):tab l.length (fun i=>l.getD i d)=l:=(Jh rfl fun q hq=>by
 rw [List.getD_eq_getElem?_getD,Yv hq];rfl).symm
theorem Ls (f:α→β):(tab m g).map f=tab m fun i=>f (g i):=by unfold tab;rw [List.map_map];rfl
theorem VV (f:α→β) (d:α) (l:List α):l.map f=tab l.length fun i=>f (l.getD i d):=by
 have:=congrArg (List.map f) (OB d l)
 rw [Ls] at this
 exact this.symm
theorem DU:List.replicate m x=tab m fun _=>x:=Jh (by simp) fun q hq=>by rw [List.getElem?_replicate,if_pos hq]
theorem FZ (d:α) (hq:q<m):(tab m g).getD q d=g q:=by rw [List.getD_eq_getElem?_getD,EJ hq];rfl
end
def AF (u d:Rat) (f:Nat→Rat):Nat→Nat→Rat
 | 0,i=>f i
 | k+1,i=>d*AF u d f k i+u*AF u d f k (i+1)
def Ef (u d:Rat) (f:Nat→Rat) (n s i:Nat) (q:Nat):Rat:=if q<i then AF u d f (s+1) q else if q+s≤n then AF u d f s q else AF u d f (n-q) q
section
variable {u d z s:Rat} {f g:Nat→Rat} {n k i q t:Nat}
theorem Kc:tab (n+1) (Ef u d f n 0 0)=tab (n+1) f:=AL fun q hq=>by unfold Ef;rw [if_neg (by omega),if_pos (by omega)];rfl
theorem Lh (h:k<n):tab (n+1) (Ef u d f n k (n-k))=tab (n+1) (Ef u d f n (k+1) 0):=AL fun q hq=>by
 unfold Ef
 rw [if_neg (Nat.not_lt_zero q)]
 by_cases h1:q<n-k
 ·rw [if_pos h1,if_pos (by omega)]
 ·rw [if_neg h1]
  by_cases h2:q+k≤n
  ·rw [if_pos h2,if_neg (by omega),show n-q=k by omega]
  ·rw [if_neg h2,if_neg (by omega)]
theorem Og:tab (n+1) (Ef u d f n n 0)=tab (n+1) fun q=>AF u d f (n-q) q:=AL fun q hq=>by
 unfold Ef
 rw [if_neg (Nat.not_lt_zero q)]
 by_cases h2:q+n≤n
 ·rw [if_pos h2]
  have:q=0:=by omega
  subst this
  rfl
 ·rw [if_neg h2]
theorem Sv:tab (n+1) (Ef u d f n n 0)=tab (n+1) (Ef u d f n (n+1) 0):=by
 rw [Og]
 refine AL fun q hq=>?_
 unfold Ef
 rw [if_neg (Nat.not_lt_zero q),if_neg (by omega)]
theorem Of (h:i+k<n) (hx:s=d*AF u d f k i+u*AF u d f k (i+1)):(tab (n+1) (Ef u d f n k i)).set i s=tab (n+1) (Ef u d f n k (i+1)):=
 Dm (by omega) (by unfold Ef;rw [if_pos (by omega),hx];rfl) fun q hq hqi=>by
  unfold Ef
  by_cases h1:q<i
  ·rw [if_pos h1,if_pos (by omega)]
  ·rw [if_neg h1,if_neg (by omega)]
theorem FL (h:q+k≤n) (hi:i≤q):Ef u d f n k i q=AF u d f k q:=by
 unfold Ef
 rw [if_neg (by omega),if_pos h]
theorem ED: ∀ {k i:Nat},(∀j,j≤i+k→f j=g j)→AF u d f k i=AF u d g k i
 | 0,i,h=>h i (by omega)
 | k+1,i,h=>by
   unfold AF
   rw [ED (k:=k) (i:=i) fun j hj=>h j (by omega),ED (k:=k) (i:=i+1) fun j hj=>h j (by omega)]
theorem EC (u d s z:Rat) (f:Nat→Rat): ∀(k i:Nat),AF (u*z) (d*z) (fun i=>s*f i) k i=s*z^k*AF u d f k i
 | 0,i=>by show s*f i=s*z^0*f i;rw [Rat.pow_zero,Rat.mul_one]
 | k+1,i=>by
   show d*z*AF (u*z) (d*z) _ k i+u*z*AF (u*z) (d*z) _ k (i+1)=s*z^(k+1)*(d*AF u d f k i+u*AF u d f k (i+1))
   rw [EC u d s z f k i,EC u d s z f k (i+1),Rat.pow_succ]
   grind
end
theorem EM (x:Rat):x*((x.den:Int):Rat)=((x.num:Int):Rat):=by
 have h0:((x.den:Int):Rat)≠0:=by
  intro h
  have:x.den=0:=by exact_mod_cast h
  exact x.den_nz this
 have h:=Rat.mkRat_self x
 rw [Rat.mkRat_eq_div] at h
 rw [←Rat.intCast_natCast] at h
 generalize ((x.den:Int):Rat)=d at*
 generalize ((x.num:Int):Rat)=m at*
 rw [←h]
 grind
theorem Sz.pow {a E:Nat} (h:Sz a E): ∀k:Nat,Sz (k*a+1) (E^k)
 | 0=>by rw [Nat.pow_zero];exact Al _ _ (by rw [Nat.zero_mul,Nat.zero_add];decide)
 | k+1=>by
   rw [Nat.pow_succ]
   exact (Sz.mul (Sz.pow h k) h).mono (by rw [Nat.succ_mul];omega)
def IB (D B:Nat) (x:Rat):Prop:= ∃k:Int,x*((D:Int):Rat)=(k:Rat)∧k.natAbs≤B
theorem IB.rsz {D B J:Nat} {x:Rat} (h:IB D B x) (hD:0<D) (h1:Sz J D) (h2:Sz J B):RSz J x:=by
 obtain ⟨k,hk,hb⟩:=h
 have h0:((D:Int):Rat)≠0:=by
  intro h
  have:(D:Int)=0:=by exact_mod_cast h
  omega
 have e:x=mkRat k D:=by
  rw [Rat.mkRat_eq_div,←hk,Rat.intCast_natCast]
  rw [Rat.intCast_natCast] at h0
  grind
 rw [e]
 exact RSz.of_mkRat (h2.le hb) h1 (by omega)
theorem IB.of_rsz {J:Nat} {x:Rat} :IB x.den x.num.natAbs x:=⟨x.num,EM _,Yu _⟩
theorem IB.mono {D B B':Nat} {x:Rat} (h:IB D B x) (hb:B≤B'):IB D B' x:=by
 obtain ⟨k,h1,h2⟩:=h
 exact ⟨k,h1,Nat.le_trans h2 hb⟩
theorem NF (a b c d:Int):(a*b+c*d).natAbs≤a.natAbs*b.natAbs+c.natAbs*d.natAbs:=by
 rw [←Int.natAbs_mul,←Int.natAbs_mul]
 exact Int.natAbs_add_le _ _
theorem GD {u d:Rat} {f:Nat→Rat} {D B E U V n:Nat} (hf: ∀i,i≤n→IB D B (f i)) (hu:IB E U u) (hd:IB E V d): ∀(k i:Nat),k+i≤n→IB (D*E^k) (B*(U+V)^k) (AF u d f k i)
 | 0,i,h=>by rw [Nat.pow_zero,Nat.pow_zero,Nat.mul_one,Nat.mul_one];exact hf i (by omega)
 | k+1,i,h=>by
   obtain ⟨a,ha,hab⟩:=GD hf hu hd k i (by omega)
   obtain ⟨b,hb,hbb⟩:=GD hf hu hd k (i+1) (by omega)
   obtain ⟨p,hp,hpb⟩:=hu
   obtain ⟨q,hq,hqb⟩:=hd
   refine ⟨q*a+p*b,?_,?_⟩
   ·have e:((D*E^(k+1):Nat):Int)=(D*E^k:Nat)*(E:Nat):=by rw [Nat.pow_succ,←Nat.mul_assoc,Int.natCast_mul]
    show (d*AF u d f k i+u*AF u d f k (i+1))*(((D*E^(k+1):Nat):Int):Rat)=_
    rw [e,Rat.intCast_mul,Rat.intCast_add,Rat.intCast_mul,Rat.intCast_mul,←ha,←hb,←hp,←hq]
    grind
   ·refine Nat.le_trans (NF _ _ _ _) ?_
    have h1:=Nat.mul_le_mul hqb hab
    have h2:=Nat.mul_le_mul hpb hbb
    rw [Nat.pow_succ]
    have:B*((U+V)^k*(U+V))=V*(B*(U+V)^k)+U*(B*(U+V)^k):=by
     rw [←Nat.mul_assoc,Nat.mul_add,Nat.mul_comm V,Nat.mul_comm U,Nat.add_comm]
    omega
def BV (x:Rat):Rat:=((x.den:Int):Rat)
theorem N6 (x:Rat):0<BV x:=by
 unfold BV
 have h:(0:Int)<(x.den:Int):=by have:=x.den_pos;omega
 have:=Rat.intCast_lt_intCast.2 h
 simpa using this
def whS:Rat→List Rat→Rat
 | s,[]=>s
 | s,r::l=>whS (s*BV (s*r)) l
theorem Wd {x:Rat} {k:Nat} {z:Int} (hk:0<k) (h:x*((k:Int):Rat)=(z:Rat)):x.den∣k:=by
 have h0:((x.den:Int):Rat)≠0:=by have:=N6 x;unfold BV at this;grind
 have h1:x*((x.den:Int):Rat)=((x.num:Int):Rat):=EM _
 have h2:((x.num*k:Int):Rat)=((z*x.den:Int):Rat):=by
  rw [Rat.intCast_mul,Rat.intCast_mul,←h1,←h]
  grind
 have h3:x.num*k=z*x.den:=Rat.intCast_inj.1 h2
 have h4:x.den∣x.num.natAbs*k:=by
  refine ⟨z.natAbs,?_⟩
  have:=congrArg Int.natAbs h3
  rw [Int.natAbs_mul,Int.natAbs_mul] at this
  simpa [Nat.mul_comm] using this
 exact (Nat.Coprime.symm x.reduced).dvd_of_dvd_mul_left h4
theorem IH (m:Nat) (r:Rat):(((m:Int):Rat)*r).den∣r.den:=by
 have h1:r*((r.den:Int):Rat)=((r.num:Int):Rat):=EM _
 refine Wd r.den_pos (z:=m*r.num) ?_
 rw [Rat.intCast_mul,←h1]
 grind
theorem Qh {a m:Nat} (h:Sz a m) (h1:1≤a):RSz a ((m:Int):Rat):=by
 have e:((m:Int):Rat)=mkRat m 1:=by rw [Rat.mkRat_one]
 rw [e]
 exact RSz.of_mkRat (by simpa using h) (Al _ _ (by
  have:(4294967296:Nat)^a≥4294967296^1:=Nat.pow_le_pow_right (by decide) h1
  omega)) (by decide)
theorem SH {m a j:Nat} {r:Rat} (hm:0<m) (ha:Sz a m) (hr:RSz j r): ∃n:Nat,0<n∧((m:Int):Rat)*BV (((m:Int):Rat)*r)=((n:Int):Rat)∧Sz (a+j) n:=by
 have hd:=IH m r
 refine ⟨m*(((m:Int):Rat)*r).den,Nat.mul_pos hm (Rat.den_pos _),?_,ha.mul (hr.2.le (Nat.le_of_dvd r.den_pos hd))⟩
 unfold BV
 rw [Int.natCast_mul,Rat.intCast_mul]
theorem FV {j:Nat} : ∀(l:List Rat) (m a:Nat),0<m→Sz a m→(∀r∈l,RSz j r)→ ∃M:Nat,0<M∧m∣M∧whS ((m:Int):Rat) l=((M:Int):Rat)∧Sz (a+l.length*j) M∧ ∀r∈l,∃z:Int,((M:Int):Rat)*r=(z:Rat)
 | [],m,a,hm,ha,_=>⟨m,hm,Nat.dvd_refl _,rfl,by simpa using ha,fun r hr=>by cases hr⟩
 | r::l,m,a,hm,ha,hj=>by
   have hd:=IH m r
   obtain ⟨e,he⟩: ∃e,e=(((m:Int):Rat)*r).den:=⟨_,rfl⟩
   have hep:0<e:=by rw [he];exact Rat.den_pos _
   have hes:Sz j e:=(hj r List.mem_cons_self).2.le (Nat.le_of_dvd r.den_pos (he▸hd))
   obtain ⟨M,h1,h2,h3,h4,h5⟩:=FV (j:=j) l (m*e) (a+j) (Nat.mul_pos hm hep) (ha.mul hes) fun r hr=>hj r (List.mem_cons_of_mem _ hr)
   have e1:((m:Int):Rat)*BV (((m:Int):Rat)*r)=(((m*e:Nat):Int):Rat):=by
    unfold BV
    rw [←he,Int.natCast_mul,Rat.intCast_mul]
   refine ⟨M,h1,Nat.dvd_trans (Nat.dvd_mul_right m e) h2,?_,h4.mono (by rw [List.length_cons,Nat.succ_mul];omega),fun x hx=>?_⟩
   ·show whS (((m:Int):Rat)*BV (((m:Int):Rat)*r)) l=_
    rw [e1];exact h3
   ·rcases List.mem_cons.1 hx with rfl|hx
    ·obtain ⟨c,hc⟩:=h2
     have h6:((m:Int):Rat)*x*((e:Int):Rat)=(((((m:Int):Rat)*x).num:Int):Rat):=by rw [he];exact EM _
     refine ⟨c*(((m:Int):Rat)*x).num,?_⟩
     rw [hc,Rat.intCast_mul,←h6,Int.natCast_mul,Int.natCast_mul,Rat.intCast_mul,Rat.intCast_mul]
     grind
    ·exact h5 x hx
section
variable {a b:Nat→Rat} {m n i j k N:Nat}
end
def CB (t:Rat) (f:Nat→Rat) (i:Nat):Rat:=AF t (1-t) f i 0
def Fc (t:Rat) (f:Nat→Rat) (n i:Nat):Rat:=AF t (1-t) f (n-i) i
def IM (a b:Rat) (f:Nat→Rat) (n i:Nat):Rat:=CB ((b-a)/(1-a)) (Fc a f n) i
theorem DK {z:Rat} (h:z≠0): ∀k:Nat,z^k≠0
 | 0=>by rw [Rat.pow_zero];decide
 | k+1=>by
   rw [Rat.pow_succ]
   have:=DK h k
   intro h0
   rcases Rat.mul_eq_zero.1 h0 with h1|h1
   ·exact this h1
   ·exact h h1
theorem DL {x y:Rat} (h:x≠0) (k:y≠0):x*y≠0:=fun h0=>by
 rcases Rat.mul_eq_zero.1 h0 with h1|h1
 ·exact h h1
 ·exact k h1
theorem Hi {x y:Rat} (h:x≠0):x*y/x=y:=by grind
section
variable {s z t u d:Rat} {f:Nat→Rat} {n i:Nat}
theorem Wi (hs:s≠0) (hz:z≠0) (hu:u=t*z) (hd:d=z-u):AF u d (fun i=>s*f i) i 0/(s*z^i)=CB t f i:=by
 have e:d=(1-t)*z:=by rw [hd,hu];grind
 rw [e,hu,EC]
 exact Hi (DL hs (DK hz i))
end
theorem Pl (z:Rat) {n i:Nat} (h:i≤n):z^(n-i)*z^i=z^n:=by
 obtain ⟨k,rfl⟩: ∃k,n=k+i:=⟨n-i,by omega⟩
 rw [Nat.add_sub_cancel]
 induction i with
 | zero=>rw [Rat.pow_zero,Rat.mul_one];rfl
 | succ i ih=>
   rw [Rat.pow_succ,←Rat.mul_assoc,ih (by omega),show k+(i+1)=(k+i)+1 by omega,Rat.pow_succ]
theorem VL {s E a b e0 e1:Rat} {f:Nat→Rat} {n k:Nat} (hs:s≠0) (hE:E≠0) (ha:a≠1) (h0:e0=E*a) (h1:e1=E*b) (hk:k≤n):
  AF (e1-e0) (E-e1) (fun i=>AF e0 (E-e0) (fun i=>s*f i) (n-i) i*E^i) k 0/(s*E^n*(E-e0)^k)=IM a b f n k:=by
 have h1a:(1:Rat)-a≠0:=by grind
 have er:E-e0=(1-a)*E:=by rw [h0];grind
 have hz:E-e0≠0:=by rw [er];exact DL h1a hE
 have c1: ∀i,i≤n→AF e0 (E-e0) (fun i=>s*f i) (n-i) i*E^i=s*E^n*Fc a f n i:=fun i hi=>by
  rw [er,show e0=a*E by rw [h0];grind,EC]
  unfold Fc
  rw [←Pl E hi]
  grind
 rw [ED (g:=fun i=>s*E^n*Fc a f n i) fun j hj=>c1 j (by omega)]
 unfold IM CB
 have hu:e1-e0=(b-a)/(1-a)*(E-e0):=by rw [er,h0,h1];grind
 have hd:E-e1=(1-(b-a)/(1-a))*(E-e0):=by rw [er,h1];grind
 rw [hu,hd,EC]
 exact Hi (DL (DL hs (DK hE n)) (DK hz k))
theorem L5 {n:Nat} (h:0<n):((n:Int):Rat)≠0:=fun h0=>by
 have h1:((n:Int):Rat)=((0:Int):Rat):=h0
 have:=Rat.intCast_inj.1 h1
 omega
section
variable {f g:Nat→Rat} {n o i q:Nat} {x:Rat}
end
abbrev S3 (s:Int):Prop:=s= -1∨s=0∨s=1
section
variable {f:Nat→Rat} {n:Nat} {t:Rat}
end
section
variable {a b:Rat} {e:Int}
end
section
variable {u d t:Rat} {f g:Nat→Rat} {m n:Nat}
end
end Go.Proofs.YtfineedhebhpaaaGreatDoor
