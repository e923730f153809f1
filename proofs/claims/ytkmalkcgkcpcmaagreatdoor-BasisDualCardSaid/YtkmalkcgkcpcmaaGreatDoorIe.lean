/-
  Several texts in one: Zca, Zcb, Zcc, Zcd.
-/
import Derived.Test.YtkmalkcgkcpcmaaGreatDoorBj
import Derived.Test.YtkmalkcgkcpcmaaGreatDoorId
import Derived.Test.YtkmalkcgkcpcmaaGreatDoorIc
import Derived.Test.YtkmalkcgkcpcmaaGreatDoorIb
import Derived.Test.YtkmalkcgkcpcmaaGreatDoorHy
namespace Go.Proofs.YtkmalkcgkcpcmaaGreatDoor
open Nat renaming le_refl→Yi
open List renaming getElem?_eq_getElem→Yk,replicate→Yj
set_option linter.unusedVariables false
set_option linter.unusedSimpArgs false
def shR (n:Nat→Rat) (q r:Nat) (t:Rat):Rat:=(t-n q)/(n r-n q)
def dbW (n:Nat→Rat) (p:Nat) (a c:Nat→Rat):Nat→Nat→Rat
 | 0,j=>c j
 | s+1,j=>dbW n p a c s j+(dbW n p a c s (j+1)-dbW n p a c s j)*shR n (s+j) (p+j) (a s)
def dbV (n:Nat→Rat) (p:Nat) (t:Rat):Nat→Nat→Rat
 | 0,0=>1
 | 0,_+1=>0
 | d+1,0=>dbV n p t d 0-dbV n p t d 0*shR n (p-1-d) p t
 | d+1,j+1=>dbV n p t d j*shR n (p-1-d+j) (p+j) t+(dbV n p t d (j+1)-dbV n p t d (j+1)*shR n (p-1-d+(j+1)) (p+(j+1)) t)
section
variable {n:Nat→Rat} {p:Nat} {a b c e:Nat→Rat} {t:Rat}
theorem EF: ∀ {d j:Nat},d<j→dbV n p t d j=0
 | 0,0,h=>by omega
 | 0,j+1,_=>rfl
 | d+1,0,h=>by omega
 | d+1,j+1,h=>by
   unfold dbV
   rw [EF (d:=d) (j:=j) (by omega),EF (d:=d) (j:=j+1) (by omega)]
   grind
theorem DB: ∀ {s j:Nat},(∀q,q<s→a q=b q)→(∀q,j≤q→q≤j+s→c q=e q)→dbW n p a c s j=dbW n p b e s j
 | 0,j,_,h=>h j (Yi _) (Yi _)
 | s+1,j,h1,h2=>by
   unfold dbW
   rw [DB (s:=s) (j:=j) (fun q hq=>h1 q (by omega)) (fun q h3 h4=>h2 q h3 (by omega)),DB (s:=s) (j:=j+1) (fun q hq=>h1 q (by omega)) (fun q h3 h4=>h2 q (by omega) (by omega)),h1 s (by omega)]
def smW (f:Nat→Rat):Nat→Rat
 | 0=>0
 | m+1=>smW f m+f m
theorem FT {f g:Nat→Rat} : ∀ {m:Nat},(∀i,i<m→f i=g i)→smW f m=smW g m
 | 0,_=>rfl
 | m+1,h=>by unfold smW;rw [FT (m:=m) fun i hi=>h i (by omega),h m (by omega)]
theorem Lb {f g:Nat→Rat} : ∀ {m:Nat},smW (fun i=>f i+g i) m=smW f m+smW g m
 | 0=>by show (0:Rat)=0+0;grind
 | m+1=>by unfold smW;rw [Lb (m:=m)];grind
theorem Hg {f:Nat→Rat} : ∀ {m:Nat},smW f (m+1)=f 0+smW (fun i=>f (i+1)) m
 | 0=>by show (0:Rat)+f 0=f 0+0;grind
 | m+1=>by
   show smW f (m+1)+f (m+1)=f 0+(smW (fun i=>f (i+1)) m+f (m+1))
   rw [Hg (m:=m)];grind
theorem RM {d:Nat} (hd:d<p) (w w':Nat→Rat) (hw: ∀j,j≤d→w' j=w j+(w (j+1)-w j)*shR n (p-1-d+j) (p+j) t):
  smW (fun j=>w j*dbV n p t (d+1) j) (d+2)=smW (fun j=>w' j*dbV n p t d j) (d+1):=by
 rw [Hg]
 have e1: ∀i,w (i+1)*dbV n p t (d+1) (i+1)=w (i+1)*(dbV n p t d i*shR n (p-1-d+i) (p+i) t)+w (i+1)*(dbV n p t d (i+1)-dbV n p t d (i+1)*shR n (p-1-d+(i+1)) (p+(i+1)) t):=fun i=>by
  show w (i+1)*(_+_)=_
  grind
 rw [FT fun i _=>e1 i,Lb]
 have e2:w 0*dbV n p t (d+1) 0+smW (fun i=>w (i+1)*(dbV n p t d (i+1)-dbV n p t d (i+1)*shR n (p-1-d+(i+1)) (p+(i+1)) t)) (d+1)=smW (fun i=>w i*(dbV n p t d i-dbV n p t d i*shR n (p-1-d+i) (p+i) t)) (d+2):=by
  rw [Hg (m:=d+1)]
  rfl
 have e3:smW (fun i=>w i*(dbV n p t d i-dbV n p t d i*shR n (p-1-d+i) (p+i) t)) (d+2)=smW (fun i=>w i*(dbV n p t d i-dbV n p t d i*shR n (p-1-d+i) (p+i) t)) (d+1):=by
  show smW _ (d+1)+w (d+1)*(dbV n p t d (d+1)-dbV n p t d (d+1)*_)=_
  rw [EF (d:=d) (j:=d+1) (by omega)]
  grind
 have e4:w 0*dbV n p t (d+1) 0+(smW (fun i=>w (i+1)*(dbV n p t d i*shR n (p-1-d+i) (p+i) t)) (d+1)+smW (fun i=>w (i+1)*(dbV n p t d (i+1)-dbV n p t d (i+1)*shR n (p-1-d+(i+1)) (p+(i+1)) t)) (d+1))=smW (fun i=>w (i+1)*(dbV n p t d i*shR n (p-1-d+i) (p+i) t)) (d+1)+smW (fun i=>w i*(dbV n p t d i-dbV n p t d i*shR n (p-1-d+i) (p+i) t)) (d+1):=by
  rw [←e3,←e2];grind
 rw [e4,←Lb]
 refine FT fun j hj=>?_
 rw [hw j (by omega)]
 grind
theorem NH: ∀ {d:Nat},d≤p→smW (fun j=>dbW n p (fun _=>t) c (p-d) j*dbV n p t d j) (d+1)=dbW n p (fun _=>t) c p 0
 | 0,_=>by
   show 0+dbW n p (fun _=>t) c p 0*1=_
   grind
 | d+1,h=>by
   rw [←NH (d:=d) (by omega)]
   refine RM (by omega) _ _ fun j hj=>?_
   rw [show p-d=(p-(d+1))+1 by omega]
   show _+_*shR n (p-(d+1)+j) (p+j) t=_
   rw [show p-(d+1)=p-1-d by omega]
theorem VV (h:0≤p):smW (fun j=>dbV n p t p j) (p+1)=1:=by
 have:=NH (n:=n) (p:=p) (t:=t) (c:=fun _=>1) (Yi p)
 rw [Nat.sub_self] at this
 have h1: ∀s j,dbW n p (fun _=>t) (fun _=>(1:Rat)) s j=1:=by
  intro s
  induction s with
  | zero=>intro j;rfl
  | succ s ih=>intro j;unfold dbW;rw [ih,ih];grind
 rw [h1] at this
 rw [←this]
 refine FT fun j _=>?_
 show _=(1:Rat)*_
 grind
theorem Ok {q r:Nat} (h1:n q≤t) (h2:t≤n r) (h3:n q<n r):0≤shR n q r t∧shR n q r t≤1:=by
 unfold shR
 have hp:0<n r-n q:=by grind
 constructor
 ·rw [Rat.div_def];exact Rat.mul_nonneg (by grind) (Rat.le_of_lt (Rat.inv_pos.2 hp))
 ·have:(t-n q)/(n r-n q)≤(n r-n q)/(n r-n q):=by
   rw [Rat.div_def,Rat.div_def]
   exact Rat.mul_le_mul_of_nonneg_right (by grind) (Rat.le_of_lt (Rat.inv_pos.2 hp))
  rwa [Rat.div_def (n r-n q),Rat.mul_inv_cancel _ (by grind)] at this
theorem IL (h: ∀q r,q<p→p≤r→r<2*p→n q≤t∧t≤n r∧n q<n r): ∀ {d j:Nat},d≤p→0≤dbV n p t d j
 | 0,0,_=>by show (0:Rat)≤1;decide
 | 0,_+1,_=>Rat.le_refl
 | d+1,0,hd=>by
   unfold dbV
   obtain ⟨a1,a2,a3⟩:=h (p-1-d) p (by omega) (by omega) (by omega)
   obtain ⟨b1,b2⟩:=Ok a1 a2 a3
   have h0:=IL h (d:=d) (j:=0) (by omega)
   have:0≤dbV n p t d 0*(1-shR n (p-1-d) p t):=Rat.mul_nonneg h0 (by grind)
   grind
 | d+1,j+1,hd=>by
   unfold dbV
   have h0:=IL h (d:=d) (j:=j) (by omega)
   have h1:=IL h (d:=d) (j:=j+1) (by omega)
   have k0:0≤dbV n p t d j*shR n (p-1-d+j) (p+j) t:=by
    by_cases hj:j≤d
    ·obtain ⟨a1,a2,a3⟩:=h (p-1-d+j) (p+j) (by omega) (by omega) (by omega)
     exact Rat.mul_nonneg h0 (Ok a1 a2 a3).1
    ·rw [EF (d:=d) (j:=j) (by omega)];grind
   have k1:0≤dbV n p t d (j+1)*(1-shR n (p-1-d+(j+1)) (p+(j+1)) t):=by
    by_cases hj:j+1≤d
    ·obtain ⟨a1,a2,a3⟩:=h (p-1-d+(j+1)) (p+(j+1)) (by omega) (by omega) (by omega)
     exact Rat.mul_nonneg h1 (by have:=(Ok a1 a2 a3).2;grind)
    ·rw [EF (d:=d) (j:=j+1) (by omega)];grind
   grind
def gvS (n:Nat→Rat) (q:Nat):Nat→Rat
 | 0=>0
 | m+1=>gvS n q m+n (q+m)
theorem Kr {q:Nat} : ∀ {m:Nat},gvS n q (m+1)=n q+gvS n (q+1) m
 | 0=>by show (0:Rat)+n (q+0)=n q+0;rw [Nat.add_zero];grind
 | m+1=>by
   show gvS n q (m+1)+n (q+(m+1))=n q+(gvS n (q+1) m+n (q+1+m))
   rw [Kr (m:=m),show q+(m+1)=q+1+m by omega];grind
theorem JE {v:Rat} (hn: ∀s j,s<p→j<p-s→n (p+j)-n (s+j)≠0) (hc: ∀j,j≤p→c j=gvS n j p*v): ∀ {s j:Nat},s+j≤p→dbW n p (fun _=>t) c s j=(gvS n (s+j) (p-s)+(s:Rat)*t)*v
 | 0,j,h=>by
   show c j=_
   rw [hc j (by omega),Nat.zero_add,Nat.sub_zero]
   have:((0:Nat):Rat)=0:=rfl
   grind
 | s+1,j,h=>by
   unfold dbW
   rw [JE hn hc (s:=s) (j:=j) (by omega),JE hn hc (s:=s) (j:=j+1) (by omega)]
   have hne:=hn s j (by omega) (by omega)
   have e1:gvS n (s+j) (p-s)=n (s+j)+gvS n (s+1+j) (p-(s+1)):=by
    rw [show p-s=p-(s+1)+1 by omega,Kr,show s+j+1=s+1+j by omega]
   have e2:gvS n (s+(j+1)) (p-s)=gvS n (s+1+j) (p-(s+1))+n (p+j):=by
    rw [show p-s=p-(s+1)+1 by omega,show s+(j+1)=s+1+j by omega]
    show gvS n (s+1+j) (p-(s+1))+n (s+1+j+(p-(s+1)))=_
    rw [show s+1+j+(p-(s+1))=p+j by omega]
   have e3:((s+1:Nat):Rat)=(s:Rat)+1:=by
    rw [Rat.natCast_add];rfl
   rw [e1,e2,e3]
   unfold shR
   generalize gvS n (s+1+j) (p-(s+1))=g
   generalize n (p+j)=y at*
   generalize n (s+j)=x at*
   have h5:(y-x)*((t-x)/(y-x))=t-x:=by grind
   have h6:((g+y+ ↑s*t)*v-(x+g+ ↑s*t)*v)*((t-x)/(y-x))=v*((y-x)*((t-x)/(y-x))):=by grind
   rw [h6,h5];grind
theorem VU {s j:Nat} (hn: ∀s j,s<p→j<p-s→n (p+j)-n (s+j)≠0) (hs:s+1<p) (hj:j<p-(s+1)) (h1: ∀q,q<s→a q=b q) (h2:a s=b (s+1)) (h3:a (s+1)=b s):dbW n p a c (s+2) j=dbW n p b c (s+2) j:=by
 have e0: ∀i,dbW n p a c s i=dbW n p b c s i:=fun i=>DB h1 fun _ _ _=>rfl
 show dbW n p a c (s+1) j+(dbW n p a c (s+1) (j+1)-dbW n p a c (s+1) j)*shR n (s+1+j) (p+j) (a (s+1))=dbW n p b c (s+1) j+(dbW n p b c (s+1) (j+1)-dbW n p b c (s+1) j)*shR n (s+1+j) (p+j) (b (s+1))
 have f: ∀(g:Nat→Rat) i,dbW n p g c (s+1) i=dbW n p g c s i+(dbW n p g c s (i+1)-dbW n p g c s i)*shR n (s+i) (p+i) (g s):=fun _ _=>rfl
 rw [f,f,f,f,e0,e0,e0,h2,h3]
 generalize b s=u
 generalize b (s+1)=v
 have n1:=hn s j (by omega) (by omega)
 have n2:=hn s (j+1) (by omega) (by omega)
 have n3:=hn (s+1) j (by omega) (by omega)
 rw [show s+1+j=s+(j+1) by omega] at n3⊢
 generalize dbW n p b c s j=w0
 generalize dbW n p b c s (j+1)=w1
 rw [show j+1+1=j+2 from rfl]
 generalize dbW n p b c s (j+2)=w2
 unfold shR
 generalize n (s+j)=A at*
 generalize n (s+(j+1))=B at*
 generalize n (p+j)=C at*
 generalize n (p+(j+1))=D at*
 have q1:(C-A)*(C-A)⁻¹=1:=Rat.mul_inv_cancel _ n1
 have q2:(D-B)*(D-B)⁻¹=1:=Rat.mul_inv_cancel _ n2
 have q3:(C-B)*(C-B)⁻¹=1:=Rat.mul_inv_cancel _ n3
 simp only [Rat.div_def]
 generalize (C-A)⁻¹=x at*
 generalize (D-B)⁻¹=y at*
 generalize (C-B)⁻¹=z at*
 grind
theorem LT {v:Rat} {a b e:Nat→Rat} (h0:(a 0)=(b 0+e 0)*v) (hv:v+v=1) (h1: ∀q,0<q→a q=b q∧a q=e q): ∀ {s j:Nat},dbW n p a c (s+1) j=(dbW n p b c (s+1) j+dbW n p e c (s+1) j)*v
 | 0,j=>by
   show c j+(c (j+1)-c j)*shR n (0+j) (p+j) (a 0)=(c j+(c (j+1)-c j)*shR n (0+j) (p+j) (b 0)+(c j+(c (j+1)-c j)*shR n (0+j) (p+j) (e 0)))*v
   rw [h0]
   unfold shR
   simp only [Rat.div_def]
   generalize (n (p+j)-n (0+j))⁻¹=x
   grind
 | s+1,j=>by
   have f: ∀(g:Nat→Rat),dbW n p g c (s+1+1) j=dbW n p g c (s+1) j+(dbW n p g c (s+1) (j+1)-dbW n p g c (s+1) j)*shR n (s+1+j) (p+j) (g (s+1)):=fun _=>rfl
   rw [f a,f b,f e,LT h0 hv h1 (s:=s) (j:=j),LT h0 hv h1 (s:=s) (j:=j+1),←(h1 (s+1) (by omega)).1,←(h1 (s+1) (by omega)).2]
   grind
theorem JF {s:Nat} (h0: ∀i,i≤p-s→dbW n p a c s i=dbW n p b c s i): ∀ {m j:Nat},s+m+j≤p→(∀q,s≤q→q<s+m→a q=b q)→dbW n p a c (s+m) j=dbW n p b c (s+m) j
 | 0,j,h1,_=>h0 j (by omega)
 | m+1,j,h1,h2=>by
   show dbW n p a c (s+m+1) j=dbW n p b c (s+m+1) j
   unfold dbW
   rw [JF h0 (m:=m) (j:=j) (by omega) fun q k1 k2=>h2 q k1 (by omega),JF h0 (m:=m) (j:=j+1) (by omega) fun q k1 k2=>h2 q k1 (by omega),h2 (s+m) (by omega) (by omega)]
theorem Un {s:Nat} (hn: ∀s j,s<p→j<p-s→n (p+j)-n (s+j)≠0) (hs:s+1<p) (h1: ∀q,q≠s→q≠s+1→a q=b q) (h2:a s=b (s+1)) (h3:a (s+1)=b s):dbW n p a c p 0=dbW n p b c p 0:=by
 have:=JF (n:=n) (p:=p) (a:=a) (b:=b) (c:=c) (s:=s+2) (fun i hi=>?_) (m:=p-(s+2)) (j:=0) (by omega) fun q k1 k2=>h1 q (by omega) (by omega)
 ·rwa [show s+2+(p-(s+2))=p by omega] at this
 ·by_cases hip:i<p-(s+1)
  ·exact VU hn hs hip (fun q hq=>h1 q (by omega) (by omega)) h2 h3
  ·omega
theorem Uo {l m:List Rat} (hp:l.Perm m) (hn: ∀s j,s<p→j<p-s→n (p+j)-n (s+j)≠0): ∀ {h:List Rat},(h++l).length=p→dbW n p (fun q=>(h++l).getD q 0) c p 0=dbW n p (fun q=>(h++m).getD q 0) c p 0:=by
 induction hp with
 | nil=>intro h _;rfl
 | cons x _ ih=>
   intro h hl
   have:=ih (h:=h++ [x]) (by simpa using hl)
   simpa using this
 | swap x y l=>
   intro h hl
   have hl2:h.length+(l.length+2)=p:=by simpa using hl
   refine Un (s:=h.length) hn (by omega) (fun q k1 k2=>?_) ?_ ?_
   ·show (h++y::x::l).getD q 0=(h++x::y::l).getD q 0
    rw [List.getD_eq_getElem?_getD,List.getD_eq_getElem?_getD]
    by_cases hq:q<h.length
    ·rw [List.getElem?_append_left hq,List.getElem?_append_left hq]
    ·rw [List.getElem?_append_right (by omega),List.getElem?_append_right (by omega)]
     obtain ⟨r,hr⟩: ∃r,q-h.length=r+2:=⟨q-h.length-2,by omega⟩
     rw [hr];rfl
   ·show (h++y::x::l).getD h.length 0=(h++x::y::l).getD (h.length+1) 0
    rw [List.getD_eq_getElem?_getD,List.getD_eq_getElem?_getD,List.getElem?_append_right (by omega),List.getElem?_append_right (by omega),Nat.sub_self,Nat.add_sub_cancel_left]
    rfl
   ·show (h++y::x::l).getD (h.length+1) 0=(h++x::y::l).getD h.length 0
    rw [List.getD_eq_getElem?_getD,List.getD_eq_getElem?_getD,List.getElem?_append_right (by omega),List.getElem?_append_right (by omega),Nat.sub_self,Nat.add_sub_cancel_left]
    rfl
 | trans h1 h2 ih1 ih2=>
   intro h hl
   rename_i l1 l2 l3
   rw [ih1 hl]
   exact ih2 (by rw [List.length_append,←h1.length_eq,←List.length_append];exact hl)
theorem PT {q r:Nat} (h:n r-n q≠0):shR n q r (n r)=1:=by
 unfold shR
 rw [Rat.div_def]
 exact Rat.mul_inv_cancel _ h
theorem MC {q r:Nat} :shR n q r (n q)=0:=by
 unfold shR
 rw [Rat.div_def];grind
theorem NP {q:Nat} (hn: ∀s j,s<p→j<p-s→n (p+j)-n (s+j)≠0) (hq:q≤p) (ha: ∀s,s<q→a s=n (p+(q-1-s))): ∀ {s:Nat},s≤q→dbW n p a c s (q-s)=c q
 | 0,_=>rfl
 | s+1,h=>by
   have ih:=NP hn hq ha (s:=s) (by omega)
   show dbW n p a c s (q-(s+1))+(dbW n p a c s (q-(s+1)+1)-dbW n p a c s (q-(s+1)))*shR n (s+(q-(s+1))) (p+(q-(s+1))) (a s)=_
   rw [ha s (by omega),show q-1-s=q-(s+1) by omega,PT (hn s (q-(s+1)) (by omega) (by omega)),show q-(s+1)+1=q-s by omega,ih]
   grind
theorem NO {q:Nat} (ha: ∀s,q≤s→s<p→a s=n s): ∀ {m:Nat},q+m≤p→dbW n p a c (q+m) 0=dbW n p a c q 0
 | 0,_=>rfl
 | m+1,h=>by
   show dbW n p a c (q+m) 0+(dbW n p a c (q+m) (0+1)-dbW n p a c (q+m) 0)*shR n (q+m+0) (p+0) (a (q+m))=_
   rw [ha (q+m) (by omega) (by omega),Nat.add_zero (q+m),MC,NO ha (m:=m) (by omega)]
   grind
theorem Uq {q:Nat} (hn: ∀s j,s<p→j<p-s→n (p+j)-n (s+j)≠0) (hq:q≤p) (ha: ∀s,s<q→a s=n (p+(q-1-s))) (hb: ∀s,q≤s→s<p→a s=n s):dbW n p a c p 0=c q:=by
 have h1:=NP (c:=c) hn hq ha (s:=q) (Yi q)
 rw [Nat.sub_self] at h1
 have h2:=NO (c:=c) hb (m:=p-q) (by omega)
 rw [show q+(p-q)=p by omega] at h2
 rw [h2,h1]
theorem H6 {m:Nat} {n' c':Nat→Rat} (hn': ∀i,n' i=n (i+m)) (hc: ∀i,i+m≤p→c' i=c (m+i)): ∀ {s j:Nat},s+m+j≤p→dbW n' p a c' s j=dbW n p a c s (m+j)
 | 0,j,h=>by show c' j=c (m+j);exact hc j (by omega)
 | s+1,j,h=>by
   unfold dbW
   rw [H6 hn' hc (s:=s) (j:=j) (by omega),H6 hn' hc (s:=s) (j:=j+1) (by omega)]
   unfold shR
   rw [hn',hn',show s+j+m=s+(m+j) by omega,show p+j+m=p+(m+j) by omega,show m+(j+1)=m+j+1 by omega]
theorem Qo {m:Nat} (hn: ∀s j,s<p→j<p-s→n (p+j)-n (s+j)≠0) (hm:m≤p) (ht: ∀j,j<m→n (p+j)=t): ∀ {s:Nat},s≤m→dbW n p (fun _=>t) c p 0=dbW n p (fun _=>t) c (p-s) s
 | 0,_=>rfl
 | s+1,h=>by
   rw [Qo hn hm ht (s:=s) (by omega)]
   obtain ⟨r,hr⟩: ∃r,p-s=r+1:=⟨p-s-1,by omega⟩
   rw [show p-(s+1)=r by omega,hr]
   show dbW n p (fun _=>t) c r s+(dbW n p (fun _=>t) c r (s+1)-dbW n p (fun _=>t) c r s)*shR n (r+s) (p+s) t=_
   have hne:=hn r s (by omega) (by omega)
   have h1:=PT hne
   rw [ht s (by omega)] at h1
   rw [h1];grind
theorem KE {m:Nat} (hm:m≤p) (ht: ∀j,p-m≤j→j<p→n j=t): ∀ {s:Nat},s≤m→dbW n p (fun _=>t) c (p-m+s) 0=dbW n p (fun _=>t) c (p-m) 0
 | 0,_=>rfl
 | s+1,h=>by
   show dbW n p (fun _=>t) c (p-m+s) 0+(dbW n p (fun _=>t) c (p-m+s) (0+1)-dbW n p (fun _=>t) c (p-m+s) 0)*shR n (p-m+s+0) (p+0) t=_
   have h1:shR n (p-m+s) p t=0:=by
    have:=MC (n:=n) (q:=p-m+s) (r:=p)
    rwa [ht (p-m+s) (by omega) (by omega)] at this
   rw [Nat.add_zero (p-m+s),Nat.add_zero p,h1,KE hm ht (s:=s) (by omega)]
   grind
theorem Up {m:Nat} {n' c':Nat→Rat} (hn: ∀s j,s<p→j<p-s→n (p+j)-n (s+j)≠0) (hm:m≤p) (ht: ∀j,j<m→n (p+j)=t) (hn': ∀i,n' i=n (i+m)) (hc: ∀i,i+m≤p→c' i=c (m+i)):dbW n p (fun _=>t) c p 0=dbW n' p (fun _=>t) c' p 0:=by
 rw [Qo hn hm ht (s:=m) (Yi m)]
 have h1:=KE (n:=n') (c:=c') (t:=t) hm (fun j h1 h2=>by rw [hn',show j+m=p+(j+m-p) by omega];exact ht _ (by omega)) (s:=m) (Yi m)
 rw [show p-m+m=p by omega] at h1
 rw [h1,H6 hn' hc (s:=p-m) (j:=0) (by omega),Nat.add_zero]
end
abbrev nth (l:List Rat):Nat→Rat:=fun i=>l.getD i 0
section
variable {near args c w l:List Rat} {p s j i J jn jt:Nat} {t x:Rat}
theorem TT {r:Rat} (hj:j<l.length):(l.set j r).getD i 0=if i=j then r else l.getD i 0:=by
 rw [List.getD_eq_getElem?_getD,List.getD_eq_getElem?_getD,List.getElem?_set]
 by_cases h:j=i
 ·subst h;rw [if_pos rfl,if_pos rfl,if_pos hj];rfl
 ·rw [if_neg h,if_neg (Ne.symm h)]
theorem GX (hw:w.length=p+1): ∀ {j i:Nat},j≤p→(plI near p s t w j).getD i 0=if i<j then nth w i+(nth w (i+1)-nth w i)*shR (nth near) (s+i) (p+i) t else nth w i
 | 0,i,_=>by rw [if_neg (Nat.not_lt_zero i)];rfl
 | j+1,i,hj=>by
   unfold plI
   rw [TT (by rw [F0];omega),GX hw (i:=i) (by omega),GX hw (i:=j) (by omega),GX hw (i:=j+1) (by omega),if_neg (Nat.lt_irrefl j),if_neg (show ¬j+1<j by omega)]
   by_cases h:i=j
   ·subst h
    rw [if_pos rfl,if_pos (by omega)]
    rfl
   ·rw [if_neg h]
    by_cases h2:i<j
    ·rw [if_pos h2,if_pos (by omega)]
    ·rw [if_neg h2,if_neg (by omega)]
theorem Ff (hc:c.length=p+1): ∀ {s i:Nat},s≤p→i≤p→(plO near p args c s).getD i 0=dbW (nth near) p (nth args) (nth c) (min s (p-i)) i
 | 0,i,_,_=>by rw [Nat.zero_min];rfl
 | s+1,i,hs,hi=>by
   unfold plO
   rw [GX (by rw [Fe];exact hc) (by omega)]
   show (if i<p-s then (plO near p args c s).getD i 0+((plO near p args c s).getD (i+1) 0-(plO near p args c s).getD i 0)*_ else (plO near p args c s).getD i 0)=_
   by_cases h:i<p-s
   ·rw [if_pos h,Ff hc (s:=s) (i:=i) (by omega) hi,Ff hc (s:=s) (i:=i+1) (by omega) (by omega),Nat.min_eq_left (show s≤p-i by omega),Nat.min_eq_left (show s≤p-(i+1) by omega),Nat.min_eq_left (show s+1≤p-i by omega)]
    rfl
   ·rw [if_neg h,Ff hc (s:=s) (i:=i) (by omega) hi,Nat.min_eq_right (show p-i≤s by omega),Nat.min_eq_right (show p-i≤s+1 by omega)]
theorem P3 (hc:c.length=p+1):(plO near p args c p).getD 0 0=dbW (nth near) p (nth args) (nth c) p 0:=by
 rw [Ff hc (Yi p) (Nat.zero_le p),Nat.sub_zero,Nat.min_self]
theorem GS {n:Nat→Rat} {q r:Nat} (h1:RSz jn (n q)) (h2:RSz jn (n r)) (h3:RSz jt t):RSz (3*jn+jt+2) (shR n q r t):=by
 unfold shR
 rw [Rat.div_def]
 exact ((h3.sub h1).mul (MH (h2.sub h1))).mono (by omega)
def gwt (jn jt J:Nat):Nat→Nat
 | 0=>J
 | s+1=>3*gwt jn jt J s+(3*jn+jt+2)+10
theorem TK: ∀ {s m:Nat},gwt jn jt J s≤gwt jn jt J (s+m)
 | s,0=>Yi _
 | s,m+1=>by
   have:=TK (s:=s) (m:=m)
   show _≤3*gwt jn jt J (s+m)+_+10
   omega
theorem Gx {s q:Nat} (h:s≤q):gwt jn jt J s≤gwt jn jt J q:=by
 have:=TK (jn:=jn) (jt:=jt) (J:=J) (s:=s) (m:=q-s)
 rwa [show s+(q-s)=q by omega] at this
theorem LS {n a c:Nat→Rat} (hn: ∀i,RSz jn (n i)) (ha: ∀i,RSz jt (a i)) (hc: ∀i,RSz J (c i)): ∀ {s j:Nat},RSz (gwt jn jt J s) (dbW n p a c s j)
 | 0,j=>hc j
 | s+1,j=>by
   have h1:=LS hn ha hc (s:=s) (j:=j)
   have h2:=LS hn ha hc (s:=s) (j:=j+1)
   have h3:=GS (hn (s+j)) (hn (p+j)) (ha s)
   exact (h1.add ((h2.sub h1).mul h3)).mono (by show _≤3*gwt jn jt J s+(3*jn+jt+2)+10;omega)
theorem Tr (hn: ∀i,RSz jn (nth near i)) (ha: ∀i,RSz jt (nth args i)) (hc: ∀i,RSz J (nth c i)) (hcl:c.length=p+1) (hs:s<p) (hj:j≤p-s): ∀r∈plI near p s (args.getD s 0) (plO near p args c s) j,RSz (gwt jn jt J p) r:=fun r hr=>by
 obtain ⟨i,hi,rfl⟩:=List.mem_iff_getElem.1 hr
 rw [F0,Fe,hcl] at hi
 have e:=GX (near:=near) (s:=s) (i:=i) (t:=args.getD s 0) (w:=plO near p args c s) (p:=p) (by rw [Fe];exact hcl) (j:=j) (by omega)
 rw [List.getD_eq_getElem?_getD,Yk (by rw [F0,Fe,hcl];exact hi)] at e
 replace e:(plI near p s (args.getD s 0) (plO near p args c s) j)[i]=_:=e
 rw [e]
 by_cases h:i<j
 ·rw [if_pos h]
  have e2:nth (plO near p args c s) i+(nth (plO near p args c s) (i+1)-nth (plO near p args c s) i)*shR (nth near) (s+i) (p+i) (args.getD s 0)=dbW (nth near) p (nth args) (nth c) (s+1) i:=by
   show (plO near p args c s).getD i 0+((plO near p args c s).getD (i+1) 0-(plO near p args c s).getD i 0)*_=_
   rw [Ff hcl (by omega) (by omega),Ff hcl (by omega) (by omega),Nat.min_eq_left (show s≤p-i by omega),Nat.min_eq_left (show s≤p-(i+1) by omega)]
   rfl
  rw [e2]
  exact (LS hn ha hc).mono (Gx (by omega))
 ·rw [if_neg h]
  show RSz _ ((plO near p args c s).getD i 0)
  rw [Ff hcl (by omega) (by omega)]
  exact (LS hn ha hc).mono (Gx (by omega))
def gvt (jn jt:Nat):Nat→Nat
 | 0=>1
 | s+1=>3*gvt jn jt s+2*(3*jn+jt+2)+10
theorem TL: ∀ {s m:Nat},gvt jn jt s≤gvt jn jt (s+m)
 | s,0=>Yi _
 | s,m+1=>by
   have:=TL (s:=s) (m:=m)
   show _≤3*gvt jn jt (s+m)+_+10
   omega
theorem TM {s q:Nat} (h:s≤q):gvt jn jt s≤gvt jn jt q:=by
 have:=TL (jn:=jn) (jt:=jt) (s:=s) (m:=q-s)
 rwa [show s+(q-s)=q by omega] at this
theorem Hh {k:Nat} (hk:1≤k):RSz k 0∧RSz k 1:=by
 have h2:(1:Nat)<4294967296^k:=Nat.lt_of_lt_of_le (show 1<4294967296^1 by decide) (Nat.pow_le_pow_right (by decide) hk)
 have h0:(0:Nat)<4294967296^k:=by omega
 exact ⟨⟨AB 0 k h0,AB 1 k h2⟩,⟨AB 1 k h2,AB 1 k h2⟩⟩
theorem H7 {n:Nat→Rat} (hn: ∀i,RSz jn (n i)) (ht:RSz jt t): ∀ {d j:Nat},RSz (gvt jn jt d) (dbV n p t d j)
 | 0,0=>(Hh (Yi 1)).2
 | 0,_+1=>(Hh (Yi 1)).1
 | d+1,0=>by
   have h1:=H7 hn ht (d:=d) (j:=0)
   have h3:=GS (hn (p-1-d)) (hn p) ht
   exact (h1.sub (h1.mul h3)).mono (by show _≤3*gvt jn jt d+2*(3*jn+jt+2)+10;omega)
 | d+1,j+1=>by
   have h0:=H7 hn ht (d:=d) (j:=j)
   have h1:=H7 hn ht (d:=d) (j:=j+1)
   have h3:=GS (hn (p-1-d+j)) (hn (p+j)) ht
   have h4:=GS (hn (p-1-d+(j+1))) (hn (p+(j+1))) ht
   exact ((h0.mul h3).add (h1.sub (h1.mul h4))).mono (by show _≤3*gvt jn jt d+2*(3*jn+jt+2)+10;omega)
end
theorem CG: ∀ {g h:List (Rat×Nat)},BD (g++h)=BD g+BD h
 | [],h=>(Nat.zero_add _).symm
 | (y,c)::g,h=>by
   show c+BD (g++h)=c+BD g+BD h
   rw [CG (g:=g)];omega
theorem Eg {y:Rat} {c i:Nat} : ∀ {g h:List (Rat×Nat)},i<c→(rep (g++(y,c)::h)).getD (BD g+i) 0=y:=fun {g h} hi=>by
 rw [Fd,List.getD_eq_getElem?_getD,List.getElem?_append_right (by rw [DX];omega),DX,Nat.add_sub_cancel_left]
 show ((Yj c y++rep h)[i]?).getD 0=y
 rw [List.getElem?_append_left (by rw [List.length_replicate];exact hi),List.getElem?_replicate,if_pos hi]
 rfl
theorem Fy: ∀ {g:List (Rat×Nat)} {i:Nat},i<BD g→ ∃g1 y c h j,g=g1++(y,c)::h∧j<c∧i=BD g1+j
 | [],i,h=>absurd h (Nat.not_lt_zero i)
 | (y,c)::g,i,h=>by
   have h:i<c+BD g:=h
   by_cases hi:i<c
   ·exact ⟨[],y,c,g,i,rfl,hi,(Nat.zero_add i).symm⟩
   ·obtain ⟨g1,z,d,h2,j,rfl,h3,h4⟩:=Fy (g:=g) (i:=i-c) (by omega)
    refine ⟨(y,c)::g1,z,d,h2,j,rfl,h3,?_⟩
    show i=c+BD g1+j
    omega
theorem GZ {y:Rat} {c:Nat} : ∀ {g h:List (Rat×Nat)},Gt (g++(y,c)::h)→(∀a∈g,a.1<y)∧Gt ((y,c)::h)
 | [],h,hi=>⟨fun a ha=>(by cases ha),hi⟩
 | (z,d)::g,h,hi=>by
   have hi:(∀a∈g++(y,c)::h,z<a.1)∧Gt (g++(y,c)::h):=hi
   obtain ⟨h1,h2⟩:=GZ (g:=g) hi.2
   refine ⟨fun a ha=>?_,h2⟩
   rcases List.mem_cons.1 ha with rfl|ha
   ·exact hi.1 (y,c) (List.mem_append.2 (.inr List.mem_cons_self))
   ·exact h1 a ha
theorem S5 {g:List (Rat×Nat)} (hi:Gt g) {i j:Nat} (hij:i≤j) (hj:j<BD g):(rep g).getD i 0≤(rep g).getD j 0:=by
 obtain ⟨g1,y,c,h,a,rfl,ha,rfl⟩:=Fy (g:=g) (i:=i) (by omega)
 rw [Eg ha]
 have h2:j-BD g1<BD ((y,c)::h):=by rw [CG] at hj;omega
 obtain ⟨g2,z,d,h3,b,he,hb,hjb⟩:=Fy h2
 have e:g1++(y,c)::h=(g1++g2)++(z,d)::h3:=by rw [he,List.append_assoc]
 have hjj:j=BD (g1++g2)+b:=by rw [CG];omega
 rw [e,hjj,Eg hb]
 cases g2 with
 | nil=>cases he;exact Rat.le_refl
 | cons q g2=>
   cases he
   have h5:=(GZ (g:=g1) hi).2
   exact Rat.le_of_lt (h5.1 (z,d) (List.mem_append.2 (.inr List.mem_cons_self)))
def ivP (l:List Rat) (t:Rat):List (Nat×Nat)→Int→Int
 | [],i=>i
 | x::xs,i=>if x.2=l.length∨t<l.getD x.1 0 then i else ivP l t xs ((x.2-1:Nat):Int)
theorem Wn {l:List Rat} {t:Rat} : ∀ {xs:List (Rn l)} {i:Int},ivA l t xs i=ivP l t (xs.map (·.1)) i
 | [],_=>rfl
 | x::xs,i=>by
   show (if F8 l t x then i else ivA l t xs ((x.1.2-1:Nat):Int))=if x.1.2=l.length∨t<l.getD x.1.1 0 then i else ivP l t (xs.map (·.1)) ((x.1.2-1:Nat):Int)
   by_cases h:x.1.2=l.length∨t<l.getD x.1.1 0
   ·rw [if_pos h,if_pos (show F8 l t x from h)]
   ·rw [if_neg h,if_neg (show ¬F8 l t x from h),Wn (xs:=xs)]
structure PD (l:List Rat) (p:Nat) (t:Rat) (e:Nat):Prop where
 low:p≤e
 high:e+p+1<l.length
 begins:l.getD e 0≤t
 lt:l.getD e 0<l.getD (e+1) 0
 ends:t<l.getD (e+1) 0∨(e+p+2=l.length∧t≤l.getD (e+1) 0)
theorem Nw {l:List Rat} {t:Rat} : ∀ {h:List (Rat×Nat)} {g:List (Rat×Nat)} {y:Rat} {c:Nat} {z:Rat} {d:Nat} {i:Int},l=rep (g++(y,c)::(z,d)::h)→(∀a∈g++(y,c)::(z,d)::h,1≤a.2)→y≤t→
  ∃g1 y1 c1 z1 d1 h1,g++(y,c)::(z,d)::h=g1++(y1,c1)::(z1,d1)::h1∧y1≤t∧(t<z1∨h1= [])∧ivP l t (rg (BD g) ((y,c)::(z,d)::h)) i=((BD g1+c1-1:Nat):Int)
 | h,g,y,c,z,d,i,hl,hp,hy=>by
   have hc:1≤c:=hp (y,c) (by simp)
   have hd:1≤d:=hp (z,d) (by simp)
   have hlen:l.length=BD g+(c+(d+BD h)):=by rw [hl,DX,CG];rfl
   have v1:l.getD (BD g) 0=y:=by rw [hl];exact Eg (i:=0) (by omega)
   have v2:l.getD (BD g+c) 0=z:=by
    have:=Eg (y:=z) (c:=d) (i:=0) (g:=g++ [(y,c)]) (h:=h) (by omega)
    rw [CG,List.append_assoc] at this
    rw [hl]
    exact this
   show ∃g1 y1 c1 z1 d1 h1,_∧_∧_∧(if BD g+c=l.length∨t<l.getD (BD g) 0 then i else ivP l t (rg (BD g+c) ((z,d)::h)) ((BD g+c-1:Nat):Int))=_
   have ht: ¬t<y:=Rat.not_lt.2 hy
   rw [if_neg (by rw [v1];rintro (h1|h1);omega;exact ht h1)]
   by_cases htz:t<z
   ·refine ⟨g,y,c,z,d,h,rfl,hy,.inl htz,?_⟩
    show (if BD g+c+d=l.length∨t<l.getD (BD g+c) 0 then _ else _)=_
    rw [if_pos (.inr (by rw [v2];exact htz))]
   ·cases h with
    | nil=>
      refine ⟨g,y,c,z,d,[],rfl,hy,.inr rfl,?_⟩
      show (if BD g+c+d=l.length∨t<l.getD (BD g+c) 0 then _ else _)=_
      rw [if_pos (.inl (by rw [hlen];show BD g+c+d=BD g+(c+(d+0));omega))]
    | cons b h=>
      obtain ⟨u,f⟩:=b
      have e:g++(y,c)::(z,d)::(u,f)::h=(g++ [(y,c)])++(z,d)::(u,f)::h:=by rw [List.append_assoc];rfl
      obtain ⟨g1,y1,c1,z1,d1,h1,k1,k2,k3,k4⟩:=Nw (l:=l) (t:=t) (h:=h) (g:=g++ [(y,c)]) (y:=z) (c:=d) (z:=u) (d:=f) (i:=((BD g+c-1:Nat):Int)) (by rw [←e];exact hl) (by rw [←e];exact hp) (Rat.not_lt.1 htz)
      refine ⟨g1,y1,c1,z1,d1,h1,by rw [e];exact k1,k2,k3,?_⟩
      rw [←k4,CG]
      rfl
structure Kns (l:List Rat) (p:Nat) (t0 u:Rat) (mid:List (Rat×Nat)):Prop where
 eq:l=rep ((t0,p+1)::(mid++ [(u,p+1)]))
 ok: ∀a∈mid,1≤a.2∧a.2≤p
 inc:Gt ((t0,p+1)::(mid++ [(u,p+1)]))
section
variable {l:List Rat} {p:Nat} {t0 u t:Rat} {mid:List (Rat×Nat)}
theorem Kns.pos (h:Kns l p t0 u mid): ∀a∈(t0,p+1)::(mid++ [(u,p+1)]),1≤a.2:=fun a ha=>by
 rcases List.mem_cons.1 ha with rfl|ha
 ·exact Nat.le_add_left 1 p
 ·rcases List.mem_append.1 ha with ha|ha
  ·exact (h.ok a ha).1
  ·rw [List.mem_singleton.1 ha];exact Nat.le_add_left 1 p
theorem Kns.len (h:Kns l p t0 u mid):l.length=p+1+(BD mid+(p+1)):=by
 rw [h.eq,DX]
 show p+1+BD (mid++ [(u,p+1)])=_
 rw [CG]
 rfl
theorem Kns.mono (h:Kns l p t0 u mid) {i j:Nat} (hij:i≤j) (hj:j<l.length):l.getD i 0≤l.getD j 0:=by
 rw [h.eq,DX] at hj
 rw [h.eq]
 exact S5 h.inc hij hj
theorem Kns.first (h:Kns l p t0 u mid) {i:Nat} (hi:i≤p):l.getD i 0=t0:=by
 have:=Eg (y:=t0) (c:=p+1) (i:=i) (g:= []) (h:=mid++ [(u,p+1)]) (by omega)
 rw [h.eq]
 rwa [show BD []+i=i from Nat.zero_add i] at this
theorem Kns.last (h:Kns l p t0 u mid) {i:Nat} (hi:l.length≤i+(p+1)) (hi2:i<l.length):l.getD i 0=u:=by
 have hl:=h.len
 have:=Eg (y:=u) (c:=p+1) (i:=i-(p+1+BD mid)) (g:=(t0,p+1)::mid) (h:= []) (by omega)
 rw [h.eq]
 rw [show BD ((t0,p+1)::mid)+(i-(p+1+BD mid))=i by show p+1+BD mid+_=_;omega] at this
 exact this
theorem Kns.fst (h:Kns l p t0 u mid):JZ l=t0:=h.first (Nat.zero_le p)
theorem Kns.lst (h:Kns l p t0 u mid):Ft l=u:=h.last (by have:=h.len;omega) (by have:=h.len;omega)
theorem Kns.iv (h:Kns l p t0 u mid) (h1:t0≤t) (h2:t≤u): ∃e:Nat,PD l p t e∧ivI l t=(e:Int):=by
 obtain ⟨z,d,r,hm⟩: ∃z d r,mid++ [(u,p+1)]=(z,d)::r:=by
  cases mid with
  | nil=>exact ⟨_,_,_,rfl⟩
  | cons b m=>obtain ⟨z,d⟩:=b;exact ⟨z,d,_,rfl⟩
 have hin:=h.inc
 have hpo:=h.pos
 have heq:=h.eq
 have hlen:=h.len
 rw [hm] at hin hpo heq
 obtain ⟨g1,y1,c1,z1,d1,r1,k1,k2,k3,k4⟩:=Nw (g:= []) (y:=t0) (c:=p+1) (z:=z) (d:=d) (h:=r) (i:= -1) heq hpo h1
 have k1:(t0,p+1)::(z,d)::r=g1++(y1,c1)::(z1,d1)::r1:=k1
 have hc1:1≤c1:=hpo (y1,c1) (by rw [k1];simp)
 have hd1:1≤d1:=hpo (z1,d1) (by rw [k1];simp)
 have hI:ivI l t=((BD g1+c1-1:Nat):Int):=by
  unfold ivI
  rw [Wn,Vm]
  have e:gr l=(t0,p+1)::(z,d)::r:=by rw [heq];exact TR hin hpo
  rw [e]
  exact k4
 have hlow:p+1≤BD g1+c1:=by
  cases g1 with
  | nil=>cases k1;show p+1≤0+(p+1);omega
  | cons b g1=>
    have hb:(t0,p+1)=b:=(List.cons.inj k1).1
    subst hb
    show p+1≤(p+1+BD g1)+c1
    omega
 have hend:(z1,d1)::r1= [(u,p+1)]∨ ∃r2,(z1,d1)::r1=(z1,d1)::(r2++ [(u,p+1)]):=by
  cases r1 with
  | nil=>
    left
    rw [←hm] at k1
    have:(((t0,p+1)::mid)++ [(u,p+1)]).getLast?=((g1++ [(y1,c1)])++ [(z1,d1)]).getLast?:=by rw [List.append_assoc];exact congrArg List.getLast? k1
    rw [List.getLast?_append,List.getLast?_append] at this
    simp at this
    simp [this]
  | cons b r1=>
    right
    rw [←hm] at k1
    obtain ⟨q,hq⟩: ∃q,(b::r1)=(b::r1).dropLast++ [q]:=⟨(b::r1).getLast (by simp),(List.dropLast_concat_getLast (by simp)).symm⟩
    have:(((t0,p+1)::mid)++ [(u,p+1)]).getLast?=((g1++ [(y1,c1),(z1,d1)]++(b::r1).dropLast)++ [q]).getLast?:=by
     rw [List.append_assoc,←hq,List.append_assoc];exact congrArg List.getLast? k1
    rw [List.getLast?_append,List.getLast?_append] at this
    simp at this
    exact ⟨(b::r1).dropLast,by rw [this,←hq]⟩
 have htot:BD g1+c1+BD ((z1,d1)::r1)=l.length:=by
  rw [heq,DX,k1,CG]
  show _=BD g1+(c1+BD ((z1,d1)::r1))
  omega
 have hge:p+1≤BD ((z1,d1)::r1)∧(r1= []→BD ((z1,d1)::r1)=p+1∧z1=u):=by
  rcases hend with e|⟨r2,e⟩
  ·rw [e]
   refine ⟨by show p+1≤p+1+0;omega,fun _=>⟨rfl,?_⟩⟩
   cases e;rfl
  ·rw [e]
   constructor
   ·show p+1≤d1+BD (r2++ [(u,p+1)])
    rw [CG]
    show p+1≤d1+(BD r2+(p+1+0))
    omega
   ·intro h0
    subst h0
    cases r2<;>cases e
 have va:l.getD (BD g1+c1-1) 0=y1:=by
  have:=Eg (y:=y1) (c:=c1) (i:=c1-1) (g:=g1) (h:=(z1,d1)::r1) (by omega)
  rw [←k1,←heq,show BD g1+(c1-1)=BD g1+c1-1 by omega] at this
  exact this
 have vb:l.getD (BD g1+c1-1+1) 0=z1:=by
  have:=Eg (y:=z1) (c:=d1) (i:=0) (g:=g1++ [(y1,c1)]) (h:=r1) (by omega)
  rw [List.append_assoc] at this
  have e:(g1++([(y1,c1)]++(z1,d1)::r1))=(t0,p+1)::(z,d)::r:=k1.symm
  rw [e,←heq,CG,show BD g1+BD [(y1,c1)]+0=BD g1+c1-1+1 by show BD g1+(c1+0)+0=_;omega] at this
  exact this
 refine ⟨BD g1+c1-1,⟨by omega,by omega,by rw [va];exact k2,?_,?_⟩,hI⟩
 ·rw [va,vb]
  rw [k1] at hin
  exact (GZ (g:=g1) hin).2.1 (z1,d1) List.mem_cons_self
 ·rw [vb]
  rcases k3 with k3|k3
  ·exact .inl k3
  ·right
   obtain ⟨e1,e2⟩:=hge.2 k3
   exact ⟨by omega,by rw [e2];exact h2⟩
theorem PD.max (h:Kns l p t0 u mid) {e i:Nat} (he:PD l p t e) (hi:e<i) (hi2:i+p+1<l.length):t<l.getD i 0:=by
 have h1:=h.mono (i:=e+1) (j:=i) (by omega) (by omega)
 rcases he.ends with h2|⟨h2,_⟩
 ·grind
 ·omega
theorem Kns.near (h:Kns l p t0 u mid) {e:Nat} (he:p≤e) (he2:e+p+1<l.length) (hlt:l.getD e 0<l.getD (e+1) 0) {a b:Nat} (ha:a≤e) (hb:e<b) (hb2:b<l.length):l.getD a 0<l.getD b 0:=by
 have h1:=h.mono (i:=a) (j:=e) ha (by omega)
 have h2:=h.mono (i:=e+1) (j:=b) hb hb2
 grind
end
open Go.RowKit
set_option maxRecDepth 20000
set_option maxHeartbeats 1000000
theorem Wg {j:Nat} {x:Rat} (h:(toL (HJ x)).length≤j):Sz (j+1) x.den:=by
 unfold HJ at h
 by_cases hd:x.den=1
 ·rw [hd]
  exact AB _ _ (Nat.lt_of_lt_of_le (show 1<4294967296^1 by decide) (Nat.pow_le_pow_right (by decide) (by omega)))
 ·rw [if_neg hd] at h
  exact Nat.le_trans h (by omega)
theorem Um {W0 w:World} {b j:Nat} : ∀ {l:List Rat} {off:Nat},ddL W0 w b off (l.flatMap (nmD j))→ ∀r∈l,RSz (j+1) r
 | [],_,_,r,hr=>by cases hr
 | x::l,off,hd,r,hr=>by
   rw [List.flatMap_cons] at hd
   replace hd:ddL W0 w b off (.q x j 0:: .q x j 1:: .q x j 2::l.flatMap (nmD j)):=hd
   simp only [ddL] at hd
   obtain ⟨_,⟨v1,_,_,b2⟩,⟨v2,_,_,c2⟩,t⟩:=hd
   rcases List.mem_cons.1 hr with rfl|hr
   ·unfold dd at b2 c2
    exact ⟨Nat.le_trans b2.2 (by omega),Wg c2.2⟩
   ·exact Um t r hr
theorem Vs {W0 w:World} {x:Value} {j:Nat} {l:List Rat} (h:dd W0 w x (.lst 3 l.length (l.flatMap (nmD j)))): ∀r∈l,RSz (j+1) r:=fun r hr=>by
 unfold dd at h
 obtain ⟨_,ao,cap,_,_,h3⟩:=h
 obtain ⟨b,off,_,h5⟩:=h3 fun h0=>by
  cases l with
  | nil=>cases hr
  | cons a l=>cases h0
 exact Um h5 r hr
theorem DD {P:Program} {A:World→Prop} {f:FuncId} {us:List AV} {R:AV} {i j:Nat} {l:List Rat} (hi:us[i]?=some (.one (AS j l))) (h:(∀x∈l,RSz (j+1) x)→Ctr P A f us R):Ctr P A f us R:=by
 intro W0 w μ sz vs hA hF hb hin hv
 have hil:i<vs.length:=by rw [hv.1];exact (List.getElem?_eq_some_iff.1 hi).1
 have hc:cv W0 μ sz w vs[i] (.one (AS j l)):=hv.2 i _ _ (Yk hil) hi
 have hd:dd W0 w vs[i] (.lst 3 l.length (l.flatMap (nmD j))):=hc
 exact h (Vs hd) W0 w μ sz vs hA hF hb hin hv
theorem Pl {P:Program} {A:World→Prop} {f:FuncId} {us:List AV} {R:AV} {i j:Nat} {x:Rat} (hi:us[i]?=some (nm j x)) (h:RSz (j+1) x→Ctr P A f us R):Ctr P A f us R:=by
 intro W0 w μ sz vs hA hF hb hin hv
 have hil:i<vs.length:=by rw [hv.1];exact (List.getElem?_eq_some_iff.1 hi).1
 have hc:cv W0 μ sz w vs[i] (nm j x):=hv.2 i _ _ (Yk hil) hi
 obtain ⟨q,hq,h2⟩:=hc
 obtain ⟨ta,tb,tc,rfl⟩: ∃a b c,q= [a,b,c]:=by
  match q,h2.1 with
  | [a,b,c],_=>exact ⟨a,b,c,rfl⟩
 have hbb:cc W0 μ sz w tb (.q x j 1):=h2.2 1 tb _ rfl rfl
 have hcc:cc W0 μ sz w tc (.q x j 2):=h2.2 2 tc _ rfl rfl
 exact h ⟨Nat.le_trans hbb.2 (by omega),Wg hcc.2⟩ W0 w μ sz vs hA hF hb hin hv
theorem Gq {j:Nat} {l:List Rat} (h: ∀x∈l,RSz (j+1) x) (i:Nat):RSz (j+1) (nth l i):=by
 by_cases hi:i<l.length
 ·have e:nth l i=l[i]:=by show l.getD i 0=_;rw [List.getD_eq_getElem?_getD,List.getElem?_eq_getElem hi];rfl
  rw [e]
  exact h _ (List.getElem_mem hi)
 ·have e:nth l i=0:=by show l.getD i 0=_;rw [List.getD_eq_getElem?_getD,List.getElem?_eq_none (by omega)];rfl
  rw [e]
  exact (Hh (by omega)).1
theorem GC {n n' a c:Nat→Rat} {p:Nat} (h: ∀q,q<2*p→n q=n' q): ∀ {s j:Nat},s+j≤p→dbW n p a c s j=dbW n' p a c s j
 | 0,j,_=>rfl
 | s+1,j,hs=>by
   unfold dbW
   rw [GC h (s:=s) (j:=j) (by omega),GC h (s:=s) (j:=j+1) (by omega)]
   unfold shR
   rw [h (s+j) (by omega),h (p+j) (by omega)]
theorem Fj {n n':Nat→Rat} {p:Nat} {t:Rat} (h: ∀q,q<2*p→n q=n' q): ∀ {d j:Nat},d≤p→j≤d→dbV n p t d j=dbV n' p t d j
 | 0,0,_,_=>rfl
 | 0,_+1,_,hj=>by omega
 | d+1,0,hd,_=>by
   unfold dbV
   rw [Fj h (d:=d) (j:=0) (by omega) (by omega)]
   unfold shR
   rw [h (p-1-d) (by omega),h p (by omega)]
 | d+1,j+1,hd,hj=>by
   unfold dbV
   rw [Fj h (d:=d) (j:=j) (by omega) (by omega)]
   have e1:shR n (p-1-d+j) (p+j) t=shR n' (p-1-d+j) (p+j) t:=by unfold shR;rw [h (p-1-d+j) (by omega),h (p+j) (by omega)]
   rw [e1]
   by_cases h2:j+1≤d
   ·have e2:shR n (p-1-d+(j+1)) (p+(j+1)) t=shR n' (p-1-d+(j+1)) (p+(j+1)) t:=by unfold shR;rw [h (p-1-d+(j+1)) (by omega),h (p+(j+1)) (by omega)]
    rw [Fj h (d:=d) (j:=j+1) (by omega) h2,e2]
   ·rw [EF (n:=n) (d:=d) (j:=j+1) (by omega),EF (n:=n') (d:=d) (j:=j+1) (by omega)]
    grind
abbrev kn (l:List Rat) (p i:Nat):Nat→Rat:=fun x=>l.getD (i+1-p+x) 0
theorem DO {l:List Rat} {p i x:Nat} (hp:p≤i+1) (hx:x<2*p):nth (Dm l p i) x=kn l p i x:=by
 show (Dm l p i).getD x 0=l.getD (i+1-p+x) 0
 unfold Dm
 rw [List.getD_eq_getElem?_getD,List.getElem?_drop,List.getElem?_take,if_pos (by omega),←List.getD_eq_getElem?_getD]
theorem Ng {l:List Rat} {p i:Nat} (hp:p≤i+1) (h:i+p+1≤l.length):(Dm l p i).length=2*p:=by unfold Dm;rw [List.length_drop,List.length_take];omega
theorem Nf {l:List Rat} {p i:Nat} {x:Rat} (h:x∈Dm l p i):x∈l:=List.mem_of_mem_take (List.mem_of_mem_drop h)
theorem M7 {c:List Rat} {a b x:Nat} (hx:a+x<b):nth ((c.take b).drop a) x=c.getD (a+x) 0:=by
 show ((c.take b).drop a).getD x 0=_
 rw [List.getD_eq_getElem?_getD,List.getElem?_drop,List.getElem?_take,if_pos hx,←List.getD_eq_getElem?_getD]
theorem Tt {c:List Rat} {a b:Nat} {x:Rat} (h:x∈(c.take b).drop a):x∈c:=List.mem_of_mem_take (List.mem_of_mem_drop h)
def Ep (l:List Rat) (p i:Nat) (c args:List Rat):Rat:=dbW (kn l p i) p (nth args) (fun x=>c.getD (i-p+x) 0) p 0
theorem KL {l c args:List Rat} {p i:Nat} (hp:p≤i):dbW (nth (Dm l p i)) p (nth args) (nth ((c.take (i+1)).drop (i-p))) p 0=Ep l p i c args:=by
 unfold Ep
 rw [GC (fun q hq=>DO (by omega) hq) (by omega)]
 exact DB (fun _ _=>rfl) fun q _ hq=>M7 (by omega)
theorem SR {jn jc jt p:Nat} {near c args:List Rat} (h1:jn≤1000000) (h3:jt≤1000000) (hJ:gwt (jn+1) (jt+1) (jc+1) p≤1000000) (hp:1≤p∧p≤6) (hn:near.length=2*p) (hc:c.length=p+1) (ha:args.length=p)
  (hd: ∀s j,s<p→j<p-s→nth near (p+j)-nth near (s+j)≠0):
  Ctr Tryz.prog Amb 88 [.one (AS jn near),.one (AS jc c),.one (AS jt args)] (nm (gwt (jn+1) (jt+1) (jc+1) p) (dbW (nth near) p (nth args) (nth c) p 0)):=by
 refine DD (i:=0) rfl fun z0=>DD (i:=1) rfl fun z1=>DD (i:=2) rfl fun z2=>?_
 have hg:jc≤gwt (jn+1) (jt+1) (jc+1) p:=Nat.le_trans (show jc≤jc+1 by omega) (Gx (s:=0) (Nat.zero_le p))
 have h:=PV (jn:=jn) (jc:=jc) (jt:=jt) (J:=gwt (jn+1) (jt+1) (jc+1) p) h1 hg h3 hJ hp hn hc ha hd fun s j hs hj=>Tr (Gq z0) (Gq z2) (Gq z1) hc hs hj
 rw [P3 hc] at h
 exact h
theorem Ee {j jc jt p i:Nat} {l c args:List Rat} (hj:j≤1000000) (hjt:jt≤1000000) (hJ:gwt (j+1) (jt+1) (jc+1) p≤1000000) (hl:l.length≤1000000) (hp:1≤p∧p≤6) (hi:p≤i) (hi2:i+p+1<l.length) (hlt:l.getD i 0<l.getD (i+1) 0) (hc:c.length=l.length-p-1) (ha:args.length=p)
  (hd: ∀s j,s<p→j<p-s→kn l p i (p+j)-kn l p i (s+j)≠0):
  Ctr Tryz.prog Amb 42 [.one (AS j l),Ak (p:Nat),.one (AS jc c),Ak (i:Nat),.one (AS jt args)] (.tup [nm (gwt (j+1) (jt+1) (jc+1) p) (Ep l p i c args),Ak 0]):=by
 refine DD (i:=0) rfl fun z0=>DD (i:=2) rfl fun z1=>DD (i:=4) rfl fun z2=>?_
 have hg:jc≤gwt (j+1) (jt+1) (jc+1) p:=Nat.le_trans (show jc≤jc+1 by omega) (Gx (s:=0) (Nat.zero_le p))
 have hcl:((c.take (i+1)).drop (i-p)).length=p+1:=by rw [List.length_drop,List.length_take];omega
 have h:=Oo (j:=j) (jc:=jc) (jt:=jt) (J:=gwt (j+1) (jt+1) (jc+1) p) hj hg hjt hJ hl hp hi hi2 hlt hc ha (fun s q hs hq=>by
  have:=hd s q hs hq
  rw [←DO (l:=l) (p:=p) (i:=i) (x:=p+q) (by omega) (by omega),←DO (l:=l) (p:=p) (i:=i) (x:=s+q) (by omega) (by omega)] at this
  exact this) fun s q hs hq=>Tr (Gq fun x hx=>z0 x (Nf hx)) (Gq z2) (Gq fun x hx=>z1 x (Tt hx)) hcl hs hq
 rw [P3 hcl,KL hi] at h
 exact h
end Go.Proofs.YtkmalkcgkcpcmaaGreatDoor
