/-
  Several texts in one: Zca, Zcb, Zcc, Zcd.
-/
import Derived.Test.YtkmalkcgkcpcmaaGreatDoorBj
import Derived.Test.YtkmalkcgkcpcmaaGreatDoorId
import Derived.Test.YtkmalkcgkcpcmaaGreatDoorIc
import Derived.Test.YtkmalkcgkcpcmaaGreatDoorIb
import Derived.Test.YtkmalkcgkcpcmaaGreatDoorHy
namespace Go.Proofs.YtkmalkcgkcpcmaaGreatDoor
open Nat renaming le_refl→Yh
open List renaming getElem?_eq_getElem→Yi
set_option linter.unusedVariables false
set_option linter.unusedSimpArgs false
def shR (n:Nat→Rat) (q r:Nat) (t:Rat):Rat:=(t-n q)/(n r-n q)
def dbW (n:Nat→Rat) (p:Nat) (a c:Nat→Rat):Nat→Nat→Rat
 | 0,j=>c j
 | s+1,j=>dbW n p a c s j+(dbW n p a c s (j+1)-dbW n p a c s j)*shR n (s+j) (p+j) (a s)
def dbV (n:Nat→Rat) (p:Nat) (t:Rat):Nat→Nat→Rat
 | 0,0=>1
 | 0,_+1=>0
 | d+1,0=>dbV n p t d 0-dbV n p t d 0*shR n (p-1-d) p t
 | d+1,j+1=>dbV n p t d j*shR n (p-1-d+j) (p+j) t+(dbV n p t d (j+1)-dbV n p t d (j+1)*shR n (p-1-d+(j+1)) (p+(j+1)) t)
section
variable {n:Nat→Rat} {p:Nat} {a b c e:Nat→Rat} {t:Rat}
theorem Fv: ∀ {d j:Nat},d<j→dbV n p t d j=0
 | 0,0,h=>by omega
 | 0,j+1,_=>rfl
 | d+1,0,h=>by omega
 | d+1,j+1,h=>by
   unfold dbV
   rw [Fv (d:=d) (j:=j) (by omega),Fv (d:=d) (j:=j+1) (by omega)]
   grind
theorem Gj: ∀ {s j:Nat},(∀q,q<s→a q=b q)→(∀q,j≤q→q≤j+s→c q=e q)→dbW n p a c s j=dbW n p b e s j
 | 0,j,_,h=>h j (Yh _) (Yh _)
 | s+1,j,h1,h2=>by
   unfold dbW
   rw [Gj (s:=s) (j:=j) (fun q hq=>h1 q (by omega)) (fun q h3 h4=>h2 q h3 (by omega)),Gj (s:=s) (j:=j+1) (fun q hq=>h1 q (by omega)) (fun q h3 h4=>h2 q (by omega) (by omega)),h1 s (by omega)]
def smW (f:Nat→Rat):Nat→Rat
 | 0=>0
 | m+1=>smW f m+f m
theorem F9 {f g:Nat→Rat} : ∀ {m:Nat},(∀i,i<m→f i=g i)→smW f m=smW g m
 | 0,_=>rfl
 | m+1,h=>by unfold smW;rw [F9 (m:=m) fun i hi=>h i (by omega),h m (by omega)]
theorem Lp {f g:Nat→Rat} : ∀ {m:Nat},smW (fun i=>f i+g i) m=smW f m+smW g m
 | 0=>by show (0:Rat)=0+0;grind
 | m+1=>by unfold smW;rw [Lp (m:=m)];grind
theorem Hm {f:Nat→Rat} : ∀ {m:Nat},smW f (m+1)=f 0+smW (fun i=>f (i+1)) m
 | 0=>by show (0:Rat)+f 0=f 0+0;grind
 | m+1=>by
   show smW f (m+1)+f (m+1)=f 0+(smW (fun i=>f (i+1)) m+f (m+1))
   rw [Hm (m:=m)];grind
theorem RR {d:Nat} (hd:d<p) (w w':Nat→Rat) (hw: ∀j,j≤d→w' j=w j+(w (j+1)-w j)*shR n (p-1-d+j) (p+j) t):
  smW (fun j=>w j*dbV n p t (d+1) j) (d+2)=smW (fun j=>w' j*dbV n p t d j) (d+1):=by
 rw [Hm]
 have e1: ∀i,w (i+1)*dbV n p t (d+1) (i+1)=w (i+1)*(dbV n p t d i*shR n (p-1-d+i) (p+i) t)+w (i+1)*(dbV n p t d (i+1)-dbV n p t d (i+1)*shR n (p-1-d+(i+1)) (p+(i+1)) t):=fun i=>by
  show w (i+1)*(_+_)=_
  grind
 rw [F9 fun i _=>e1 i,Lp]
 have e2:w 0*dbV n p t (d+1) 0+smW (fun i=>w (i+1)*(dbV n p t d (i+1)-dbV n p t d (i+1)*shR n (p-1-d+(i+1)) (p+(i+1)) t)) (d+1)=smW (fun i=>w i*(dbV n p t d i-dbV n p t d i*shR n (p-1-d+i) (p+i) t)) (d+2):=by
  rw [Hm (m:=d+1)]
  rfl
 have e3:smW (fun i=>w i*(dbV n p t d i-dbV n p t d i*shR n (p-1-d+i) (p+i) t)) (d+2)=smW (fun i=>w i*(dbV n p t d i-dbV n p t d i*shR n (p-1-d+i) (p+i) t)) (d+1):=by
  show smW _ (d+1)+w (d+1)*(dbV n p t d (d+1)-dbV n p t d (d+1)*_)=_
  rw [Fv (d:=d) (j:=d+1) (by omega)]
  grind
 have e4:w 0*dbV n p t (d+1) 0+(smW (fun i=>w (i+1)*(dbV n p t d i*shR n (p-1-d+i) (p+i) t)) (d+1)+smW (fun i=>w (i+1)*(dbV n p t d (i+1)-dbV n p t d (i+1)*shR n (p-1-d+(i+1)) (p+(i+1)) t)) (d+1))=smW (fun i=>w (i+1)*(dbV n p t d i*shR n (p-1-d+i) (p+i) t)) (d+1)+smW (fun i=>w i*(dbV n p t d i-dbV n p t d i*shR n (p-1-d+i) (p+i) t)) (d+1):=by
  rw [←e3,←e2];grind
 rw [e4,←Lp]
 refine F9 fun j hj=>?_
 rw [hw j (by omega)]
 grind
theorem NP: ∀ {d:Nat},d≤p→smW (fun j=>dbW n p (fun _=>t) c (p-d) j*dbV n p t d j) (d+1)=dbW n p (fun _=>t) c p 0
 | 0,_=>by
   show 0+dbW n p (fun _=>t) c p 0*1=_
   grind
 | d+1,h=>by
   rw [←NP (d:=d) (by omega)]
   refine RR (by omega) _ _ fun j hj=>?_
   rw [show p-d=(p-(d+1))+1 by omega]
   show _+_*shR n (p-(d+1)+j) (p+j) t=_
   rw [show p-(d+1)=p-1-d by omega]
end
abbrev nth (l:List Rat):Nat→Rat:=fun i=>l.getD i 0
section
variable {near args c w l:List Rat} {p s j i J jn jt:Nat} {t x:Rat}
theorem TV {r:Rat} (hj:j<l.length):(l.set j r).getD i 0=if i=j then r else l.getD i 0:=by
 rw [List.getD_eq_getElem?_getD,List.getD_eq_getElem?_getD,List.getElem?_set]
 by_cases h:j=i
 ·subst h;rw [if_pos rfl,if_pos rfl,if_pos hj];rfl
 ·rw [if_neg h,if_neg (Ne.symm h)]
theorem G4 (hw:w.length=p+1): ∀ {j i:Nat},j≤p→(plI near p s t w j).getD i 0=if i<j then nth w i+(nth w (i+1)-nth w i)*shR (nth near) (s+i) (p+i) t else nth w i
 | 0,i,_=>by rw [if_neg (Nat.not_lt_zero i)];rfl
 | j+1,i,hj=>by
   unfold plI
   rw [TV (by rw [Ge];omega),G4 hw (i:=i) (by omega),G4 hw (i:=j) (by omega),G4 hw (i:=j+1) (by omega),if_neg (Nat.lt_irrefl j),if_neg (show ¬j+1<j by omega)]
   by_cases h:i=j
   ·subst h
    rw [if_pos rfl,if_pos (by omega)]
    rfl
   ·rw [if_neg h]
    by_cases h2:i<j
    ·rw [if_pos h2,if_pos (by omega)]
    ·rw [if_neg h2,if_neg (by omega)]
theorem Fq (hc:c.length=p+1): ∀ {s i:Nat},s≤p→i≤p→(plO near p args c s).getD i 0=dbW (nth near) p (nth args) (nth c) (min s (p-i)) i
 | 0,i,_,_=>by rw [Nat.zero_min];rfl
 | s+1,i,hs,hi=>by
   unfold plO
   rw [G4 (by rw [Fp];exact hc) (by omega)]
   show (if i<p-s then (plO near p args c s).getD i 0+((plO near p args c s).getD (i+1) 0-(plO near p args c s).getD i 0)*_ else (plO near p args c s).getD i 0)=_
   by_cases h:i<p-s
   ·rw [if_pos h,Fq hc (s:=s) (i:=i) (by omega) hi,Fq hc (s:=s) (i:=i+1) (by omega) (by omega),Nat.min_eq_left (show s≤p-i by omega),Nat.min_eq_left (show s≤p-(i+1) by omega),Nat.min_eq_left (show s+1≤p-i by omega)]
    rfl
   ·rw [if_neg h,Fq hc (s:=s) (i:=i) (by omega) hi,Nat.min_eq_right (show p-i≤s by omega),Nat.min_eq_right (show p-i≤s+1 by omega)]
theorem Qb (hc:c.length=p+1):(plO near p args c p).getD 0 0=dbW (nth near) p (nth args) (nth c) p 0:=by
 rw [Fq hc (Yh p) (Nat.zero_le p),Nat.sub_zero,Nat.min_self]
theorem GX {n:Nat→Rat} {q r:Nat} (h1:RSz jn (n q)) (h2:RSz jn (n r)) (h3:RSz jt t):RSz (3*jn+jt+2) (shR n q r t):=by
 unfold shR
 rw [Rat.div_def]
 exact ((h3.sub h1).mul (MO (h2.sub h1))).mono (by omega)
def gwt (jn jt J:Nat):Nat→Nat
 | 0=>J
 | s+1=>3*gwt jn jt J s+(3*jn+jt+2)+10
theorem TM: ∀ {s m:Nat},gwt jn jt J s≤gwt jn jt J (s+m)
 | s,0=>Yh _
 | s,m+1=>by
   have:=TM (s:=s) (m:=m)
   show _≤3*gwt jn jt J (s+m)+_+10
   omega
theorem FX {s q:Nat} (h:s≤q):gwt jn jt J s≤gwt jn jt J q:=by
 have:=TM (jn:=jn) (jt:=jt) (J:=J) (s:=s) (m:=q-s)
 rwa [show s+(q-s)=q by omega] at this
theorem JQ {n a c:Nat→Rat} (hn: ∀i,RSz jn (n i)) (ha: ∀i,RSz jt (a i)) (hc: ∀i,RSz J (c i)): ∀ {s j:Nat},RSz (gwt jn jt J s) (dbW n p a c s j)
 | 0,j=>hc j
 | s+1,j=>by
   have h1:=JQ hn ha hc (s:=s) (j:=j)
   have h2:=JQ hn ha hc (s:=s) (j:=j+1)
   have h3:=GX (hn (s+j)) (hn (p+j)) (ha s)
   exact (h1.add ((h2.sub h1).mul h3)).mono (by show _≤3*gwt jn jt J s+(3*jn+jt+2)+10;omega)
theorem Ts (hn: ∀i,RSz jn (nth near i)) (ha: ∀i,RSz jt (nth args i)) (hc: ∀i,RSz J (nth c i)) (hcl:c.length=p+1) (hs:s<p) (hj:j≤p-s): ∀r∈plI near p s (args.getD s 0) (plO near p args c s) j,RSz (gwt jn jt J p) r:=fun r hr=>by
 obtain ⟨i,hi,rfl⟩:=List.mem_iff_getElem.1 hr
 rw [Ge,Fp,hcl] at hi
 have e:=G4 (near:=near) (s:=s) (i:=i) (t:=args.getD s 0) (w:=plO near p args c s) (p:=p) (by rw [Fp];exact hcl) (j:=j) (by omega)
 rw [List.getD_eq_getElem?_getD,Yi (by rw [Ge,Fp,hcl];exact hi)] at e
 replace e:(plI near p s (args.getD s 0) (plO near p args c s) j)[i]=_:=e
 rw [e]
 by_cases h:i<j
 ·rw [if_pos h]
  have e2:nth (plO near p args c s) i+(nth (plO near p args c s) (i+1)-nth (plO near p args c s) i)*shR (nth near) (s+i) (p+i) (args.getD s 0)=dbW (nth near) p (nth args) (nth c) (s+1) i:=by
   show (plO near p args c s).getD i 0+((plO near p args c s).getD (i+1) 0-(plO near p args c s).getD i 0)*_=_
   rw [Fq hcl (by omega) (by omega),Fq hcl (by omega) (by omega),Nat.min_eq_left (show s≤p-i by omega),Nat.min_eq_left (show s≤p-(i+1) by omega)]
   rfl
  rw [e2]
  exact (JQ hn ha hc).mono (FX (by omega))
 ·rw [if_neg h]
  show RSz _ ((plO near p args c s).getD i 0)
  rw [Fq hcl (by omega) (by omega)]
  exact (JQ hn ha hc).mono (FX (by omega))
def gvt (jn jt:Nat):Nat→Nat
 | 0=>1
 | s+1=>3*gvt jn jt s+2*(3*jn+jt+2)+10
theorem TN: ∀ {s m:Nat},gvt jn jt s≤gvt jn jt (s+m)
 | s,0=>Yh _
 | s,m+1=>by
   have:=TN (s:=s) (m:=m)
   show _≤3*gvt jn jt (s+m)+_+10
   omega
theorem TO {s q:Nat} (h:s≤q):gvt jn jt s≤gvt jn jt q:=by
 have:=TN (jn:=jn) (jt:=jt) (s:=s) (m:=q-s)
 rwa [show s+(q-s)=q by omega] at this
theorem Gz {k:Nat} (hk:1≤k):RSz k 0∧RSz k 1:=by
 have h2:(1:Nat)<4294967296^k:=Nat.lt_of_lt_of_le (show 1<4294967296^1 by decide) (Nat.pow_le_pow_right (by decide) hk)
 have h0:(0:Nat)<4294967296^k:=by omega
 exact ⟨⟨AQ 0 k h0,AQ 1 k h2⟩,⟨AQ 1 k h2,AQ 1 k h2⟩⟩
theorem Ii {n:Nat→Rat} (hn: ∀i,RSz jn (n i)) (ht:RSz jt t): ∀ {d j:Nat},RSz (gvt jn jt d) (dbV n p t d j)
 | 0,0=>(Gz (Yh 1)).2
 | 0,_+1=>(Gz (Yh 1)).1
 | d+1,0=>by
   have h1:=Ii hn ht (d:=d) (j:=0)
   have h3:=GX (hn (p-1-d)) (hn p) ht
   exact (h1.sub (h1.mul h3)).mono (by show _≤3*gvt jn jt d+2*(3*jn+jt+2)+10;omega)
 | d+1,j+1=>by
   have h0:=Ii hn ht (d:=d) (j:=j)
   have h1:=Ii hn ht (d:=d) (j:=j+1)
   have h3:=GX (hn (p-1-d+j)) (hn (p+j)) ht
   have h4:=GX (hn (p-1-d+(j+1))) (hn (p+(j+1))) ht
   exact ((h0.mul h3).add (h1.sub (h1.mul h4))).mono (by show _≤3*gvt jn jt d+2*(3*jn+jt+2)+10;omega)
def fnR (k:Nat→Rat) (q:Nat) (t:Rat):Nat→Nat→Rat
 | 0,i=>if i=q then 1 else 0
 | d+1,i=>if q<i∨i+(d+1)<q then 0 else (t-k i)/(k (i+(d+1))-k i)*fnR k q t d i+(k (i+(d+1)+1)-t)/(k (i+(d+1)+1)-k (i+1))*fnR k q t d (i+1)
theorem Qq {k:Nat→Rat} {q i:Nat} : ∀ {d:Nat},q<i∨i+d<q→fnR k q t d i=0
 | 0,h=>by unfold fnR;rw [if_neg (by omega)]
 | d+1,h=>by unfold fnR;rw [if_pos h]
theorem Qr {k n:Nat→Rat} {q:Nat} (hq:p≤q) (hn: ∀i,n i=k (q+1-p+i)) (hne: ∀s j,s<p→j<p-s→n (p+j)-n (s+j)≠0): ∀ {d j:Nat},d≤p→j≤d→fnR k q t d (q-d+j)=dbV n p t d j
 | 0,j,_,hj=>by
   obtain rfl:j=0:=by omega
   unfold fnR
   rw [if_pos (by omega)]
   rfl
 | d+1,j,hd,hj=>by
   unfold fnR
   rw [if_neg (by omega)]
   have s1: ∀i,i≤d→k (q-d+i)=n (p-1-d+i)∧k (q+1+i)=n (p+i):=fun i hi=>by
    rw [hn,hn,show q+1-p+(p-1-d+i)=q-d+i by omega,show q+1-p+(p+i)=q+1+i by omega]
    exact ⟨rfl,rfl⟩
   have second:j≤d→(k (q-(d+1)+j+(d+1)+1)-t)/(k (q-(d+1)+j+(d+1)+1)-k (q-(d+1)+j+1))*fnR k q t d (q-(d+1)+j+1)=dbV n p t d j-dbV n p t d j*shR n (p-1-d+j) (p+j) t:=fun h=>by
    rw [show q-(d+1)+j+1=q-d+j by omega,Qr hq hn hne (d:=d) (j:=j) (by omega) h,show q-(d+1)+j+(d+1)+1=q+1+j by omega,(s1 j h).1,(s1 j h).2]
    have h5:=hne (p-1-d) j (by omega) (by omega)
    unfold shR
    generalize n (p+j)=y at*
    generalize n (p-1-d+j)=x at*
    generalize dbV n p t d j=v
    rw [Rat.div_def,Rat.div_def]
    have h6:(y-x)*(y-x)⁻¹=1:=Rat.mul_inv_cancel _ h5
    generalize (y-x)⁻¹=z at*
    grind
   cases j with
   | zero=>
     rw [Qq (d:=d) (i:=q-(d+1)+0) (by omega),second (by omega)]
     show _*0+(_-_*shR n (p-1-d+0) (p+0) t)=_-_*shR n (p-1-d) p t
     rw [Nat.add_zero,Nat.add_zero]
     grind
   | succ j=>
     have first:(t-k (q-(d+1)+(j+1)))/(k (q-(d+1)+(j+1)+(d+1))-k (q-(d+1)+(j+1)))*fnR k q t d (q-(d+1)+(j+1))=dbV n p t d j*shR n (p-1-d+j) (p+j) t:=by
      rw [show q-(d+1)+(j+1)+(d+1)=q+1+j by omega,show q-(d+1)+(j+1)=q-d+j by omega,Qr hq hn hne (d:=d) (j:=j) (by omega) (by omega),(s1 j (by omega)).1,(s1 j (by omega)).2]
      unfold shR
      grind
     rw [first]
     show _=dbV n p t d j*shR n (p-1-d+j) (p+j) t+(dbV n p t d (j+1)-dbV n p t d (j+1)*shR n (p-1-d+(j+1)) (p+(j+1)) t)
     by_cases h:j+1≤d
     ·rw [second h]
     ·rw [Qq (d:=d) (i:=q-(d+1)+(j+1)+1) (by omega),Fv (d:=d) (j:=j+1) (by omega)]
      grind
end
theorem Dd: ∀ {g h:List (Rat×Nat)},BT (g++h)=BT g+BT h
 | [],h=>(Nat.zero_add _).symm
 | (y,c)::g,h=>by
   show c+BT (g++h)=c+BT g+BT h
   rw [Dd (g:=g)];omega
theorem FN {y:Rat} {c i:Nat} : ∀ {g h:List (Rat×Nat)},i<c→(rep (g++(y,c)::h)).getD (BT g+i) 0=y:=fun {g h} hi=>by
 rw [Fo,List.getD_eq_getElem?_getD,List.getElem?_append_right (by rw [EC];omega),EC,Nat.add_sub_cancel_left]
 show ((List.replicate c y++rep h)[i]?).getD 0=y
 rw [List.getElem?_append_left (by rw [List.length_replicate];exact hi),List.getElem?_replicate,if_pos hi]
 rfl
theorem Jf: ∀ {g:List (Rat×Nat)} {i:Nat},i<BT g→ ∃g1 y c h j,g=g1++(y,c)::h∧j<c∧i=BT g1+j
 | [],i,h=>absurd h (Nat.not_lt_zero i)
 | (y,c)::g,i,h=>by
   have h:i<c+BT g:=h
   by_cases hi:i<c
   ·exact ⟨[],y,c,g,i,rfl,hi,(Nat.zero_add i).symm⟩
   ·obtain ⟨g1,z,d,h2,j,rfl,h3,h4⟩:=Jf (g:=g) (i:=i-c) (by omega)
    refine ⟨(y,c)::g1,z,d,h2,j,rfl,h3,?_⟩
    show i=c+BT g1+j
    omega
theorem JD {y:Rat} {c:Nat} : ∀ {g h:List (Rat×Nat)},G9 (g++(y,c)::h)→(∀a∈g,a.1<y)∧G9 ((y,c)::h)
 | [],h,hi=>⟨fun a ha=>(by cases ha),hi⟩
 | (z,d)::g,h,hi=>by
   have hi:(∀a∈g++(y,c)::h,z<a.1)∧G9 (g++(y,c)::h):=hi
   obtain ⟨h1,h2⟩:=JD (g:=g) hi.2
   refine ⟨fun a ha=>?_,h2⟩
   rcases List.mem_cons.1 ha with rfl|ha
   ·exact hi.1 (y,c) (List.mem_append.2 (.inr List.mem_cons_self))
   ·exact h1 a ha
theorem S7 {g:List (Rat×Nat)} (hi:G9 g) {i j:Nat} (hij:i≤j) (hj:j<BT g):(rep g).getD i 0≤(rep g).getD j 0:=by
 obtain ⟨g1,y,c,h,a,rfl,ha,rfl⟩:=Jf (g:=g) (i:=i) (by omega)
 rw [FN ha]
 have h2:j-BT g1<BT ((y,c)::h):=by rw [Dd] at hj;omega
 obtain ⟨g2,z,d,h3,b,he,hb,hjb⟩:=Jf h2
 have e:g1++(y,c)::h=(g1++g2)++(z,d)::h3:=by rw [he,List.append_assoc]
 have hjj:j=BT (g1++g2)+b:=by rw [Dd];omega
 rw [e,hjj,FN hb]
 cases g2 with
 | nil=>cases he;exact Rat.le_refl
 | cons q g2=>
   cases he
   have h5:=(JD (g:=g1) hi).2
   exact Rat.le_of_lt (h5.1 (z,d) (List.mem_append.2 (.inr List.mem_cons_self)))
def ivP (l:List Rat) (t:Rat):List (Nat×Nat)→Int→Int
 | [],i=>i
 | x::xs,i=>if x.2=l.length∨t<l.getD x.1 0 then i else ivP l t xs ((x.2-1:Nat):Int)
theorem TL {l:List Rat} {t:Rat} : ∀ {xs:List (Rn l)} {i:Int},ivA l t xs i=ivP l t (xs.map (·.1)) i
 | [],_=>rfl
 | x::xs,i=>by
   show (if Gn l t x then i else ivA l t xs ((x.1.2-1:Nat):Int))=if x.1.2=l.length∨t<l.getD x.1.1 0 then i else ivP l t (xs.map (·.1)) ((x.1.2-1:Nat):Int)
   by_cases h:x.1.2=l.length∨t<l.getD x.1.1 0
   ·rw [if_pos h,if_pos (show Gn l t x from h)]
   ·rw [if_neg h,if_neg (show ¬Gn l t x from h),TL (xs:=xs)]
structure V7 (l:List Rat) (p:Nat) (t:Rat) (e:Nat):Prop where
 low:p≤e
 high:e+p+1<l.length
 begins:l.getD e 0≤t
 lt:l.getD e 0<l.getD (e+1) 0
 ends:t<l.getD (e+1) 0∨(e+p+2=l.length∧t≤l.getD (e+1) 0)
theorem NC {l:List Rat} {t:Rat} : ∀ {h:List (Rat×Nat)} {g:List (Rat×Nat)} {y:Rat} {c:Nat} {z:Rat} {d:Nat} {i:Int},l=rep (g++(y,c)::(z,d)::h)→(∀a∈g++(y,c)::(z,d)::h,1≤a.2)→y≤t→
  ∃g1 y1 c1 z1 d1 h1,g++(y,c)::(z,d)::h=g1++(y1,c1)::(z1,d1)::h1∧y1≤t∧(t<z1∨h1= [])∧ivP l t (rg (BT g) ((y,c)::(z,d)::h)) i=((BT g1+c1-1:Nat):Int)
 | h,g,y,c,z,d,i,hl,hp,hy=>by
   have hc:1≤c:=hp (y,c) (by simp)
   have hd:1≤d:=hp (z,d) (by simp)
   have hlen:l.length=BT g+(c+(d+BT h)):=by rw [hl,EC,Dd];rfl
   have v1:l.getD (BT g) 0=y:=by rw [hl];exact FN (i:=0) (by omega)
   have v2:l.getD (BT g+c) 0=z:=by
    have:=FN (y:=z) (c:=d) (i:=0) (g:=g++ [(y,c)]) (h:=h) (by omega)
    rw [Dd,List.append_assoc] at this
    rw [hl]
    exact this
   show ∃g1 y1 c1 z1 d1 h1,_∧_∧_∧(if BT g+c=l.length∨t<l.getD (BT g) 0 then i else ivP l t (rg (BT g+c) ((z,d)::h)) ((BT g+c-1:Nat):Int))=_
   have ht: ¬t<y:=Rat.not_lt.2 hy
   rw [if_neg (by rw [v1];rintro (h1|h1);omega;exact ht h1)]
   by_cases htz:t<z
   ·refine ⟨g,y,c,z,d,h,rfl,hy,.inl htz,?_⟩
    show (if BT g+c+d=l.length∨t<l.getD (BT g+c) 0 then _ else _)=_
    rw [if_pos (.inr (by rw [v2];exact htz))]
   ·cases h with
    | nil=>
      refine ⟨g,y,c,z,d,[],rfl,hy,.inr rfl,?_⟩
      show (if BT g+c+d=l.length∨t<l.getD (BT g+c) 0 then _ else _)=_
      rw [if_pos (.inl (by rw [hlen];show BT g+c+d=BT g+(c+(d+0));omega))]
    | cons b h=>
      obtain ⟨u,f⟩:=b
      have e:g++(y,c)::(z,d)::(u,f)::h=(g++ [(y,c)])++(z,d)::(u,f)::h:=by rw [List.append_assoc];rfl
      obtain ⟨g1,y1,c1,z1,d1,h1,k1,k2,k3,k4⟩:=NC (l:=l) (t:=t) (h:=h) (g:=g++ [(y,c)]) (y:=z) (c:=d) (z:=u) (d:=f) (i:=((BT g+c-1:Nat):Int)) (by rw [←e];exact hl) (by rw [←e];exact hp) (Rat.not_lt.1 htz)
      refine ⟨g1,y1,c1,z1,d1,h1,by rw [e];exact k1,k2,k3,?_⟩
      rw [←k4,Dd]
      rfl
structure Kns (l:List Rat) (p:Nat) (t0 u:Rat) (mid:List (Rat×Nat)):Prop where
 eq:l=rep ((t0,p+1)::(mid++ [(u,p+1)]))
 ok: ∀a∈mid,1≤a.2∧a.2≤p
 inc:G9 ((t0,p+1)::(mid++ [(u,p+1)]))
section
variable {l:List Rat} {p:Nat} {t0 u t:Rat} {mid:List (Rat×Nat)}
theorem Kns.pos (h:Kns l p t0 u mid): ∀a∈(t0,p+1)::(mid++ [(u,p+1)]),1≤a.2:=fun a ha=>by
 rcases List.mem_cons.1 ha with rfl|ha
 ·exact Nat.le_add_left 1 p
 ·rcases List.mem_append.1 ha with ha|ha
  ·exact (h.ok a ha).1
  ·rw [List.mem_singleton.1 ha];exact Nat.le_add_left 1 p
theorem Kns.len (h:Kns l p t0 u mid):l.length=p+1+(BT mid+(p+1)):=by
 rw [h.eq,EC]
 show p+1+BT (mid++ [(u,p+1)])=_
 rw [Dd]
 rfl
theorem Kns.mono (h:Kns l p t0 u mid) {i j:Nat} (hij:i≤j) (hj:j<l.length):l.getD i 0≤l.getD j 0:=by
 rw [h.eq,EC] at hj
 rw [h.eq]
 exact S7 h.inc hij hj
theorem Kns.first (h:Kns l p t0 u mid) {i:Nat} (hi:i≤p):l.getD i 0=t0:=by
 have:=FN (y:=t0) (c:=p+1) (i:=i) (g:= []) (h:=mid++ [(u,p+1)]) (by omega)
 rw [h.eq]
 rwa [show BT []+i=i from Nat.zero_add i] at this
theorem Kns.last (h:Kns l p t0 u mid) {i:Nat} (hi:l.length≤i+(p+1)) (hi2:i<l.length):l.getD i 0=u:=by
 have hl:=h.len
 have:=FN (y:=u) (c:=p+1) (i:=i-(p+1+BT mid)) (g:=(t0,p+1)::mid) (h:= []) (by omega)
 rw [h.eq]
 rw [show BT ((t0,p+1)::mid)+(i-(p+1+BT mid))=i by show p+1+BT mid+_=_;omega] at this
 exact this
theorem Kns.fst (h:Kns l p t0 u mid):LY l=t0:=h.first (Nat.zero_le p)
theorem Kns.lst (h:Kns l p t0 u mid):FT l=u:=h.last (by have:=h.len;omega) (by have:=h.len;omega)
theorem Kns.iv (h:Kns l p t0 u mid) (h1:t0≤t) (h2:t≤u): ∃e:Nat,V7 l p t e∧ivI l t=(e:Int):=by
 obtain ⟨z,d,r,hm⟩: ∃z d r,mid++ [(u,p+1)]=(z,d)::r:=by
  cases mid with
  | nil=>exact ⟨_,_,_,rfl⟩
  | cons b m=>obtain ⟨z,d⟩:=b;exact ⟨z,d,_,rfl⟩
 have hin:=h.inc
 have hpo:=h.pos
 have heq:=h.eq
 have hlen:=h.len
 rw [hm] at hin hpo heq
 obtain ⟨g1,y1,c1,z1,d1,r1,k1,k2,k3,k4⟩:=NC (g:= []) (y:=t0) (c:=p+1) (z:=z) (d:=d) (h:=r) (i:= -1) heq hpo h1
 have k1:(t0,p+1)::(z,d)::r=g1++(y1,c1)::(z1,d1)::r1:=k1
 have hc1:1≤c1:=hpo (y1,c1) (by rw [k1];simp)
 have hd1:1≤d1:=hpo (z1,d1) (by rw [k1];simp)
 have hI:ivI l t=((BT g1+c1-1:Nat):Int):=by
  unfold ivI
  rw [TL,P6]
  have e:gr l=(t0,p+1)::(z,d)::r:=by rw [heq];exact Pr hin hpo
  rw [e]
  exact k4
 have hlow:p+1≤BT g1+c1:=by
  cases g1 with
  | nil=>cases k1;show p+1≤0+(p+1);omega
  | cons b g1=>
    have hb:(t0,p+1)=b:=(List.cons.inj k1).1
    subst hb
    show p+1≤(p+1+BT g1)+c1
    omega
 have hend:(z1,d1)::r1= [(u,p+1)]∨ ∃r2,(z1,d1)::r1=(z1,d1)::(r2++ [(u,p+1)]):=by
  cases r1 with
  | nil=>
    left
    rw [←hm] at k1
    have:(((t0,p+1)::mid)++ [(u,p+1)]).getLast?=((g1++ [(y1,c1)])++ [(z1,d1)]).getLast?:=by rw [List.append_assoc];exact congrArg List.getLast? k1
    rw [List.getLast?_append,List.getLast?_append] at this
    simp at this
    simp [this]
  | cons b r1=>
    right
    rw [←hm] at k1
    obtain ⟨q,hq⟩: ∃q,(b::r1)=(b::r1).dropLast++ [q]:=⟨(b::r1).getLast (by simp),(List.dropLast_concat_getLast (by simp)).symm⟩
    have:(((t0,p+1)::mid)++ [(u,p+1)]).getLast?=((g1++ [(y1,c1),(z1,d1)]++(b::r1).dropLast)++ [q]).getLast?:=by
     rw [List.append_assoc,←hq,List.append_assoc];exact congrArg List.getLast? k1
    rw [List.getLast?_append,List.getLast?_append] at this
    simp at this
    exact ⟨(b::r1).dropLast,by rw [this,←hq]⟩
 have htot:BT g1+c1+BT ((z1,d1)::r1)=l.length:=by
  rw [heq,EC,k1,Dd]
  show _=BT g1+(c1+BT ((z1,d1)::r1))
  omega
 have hge:p+1≤BT ((z1,d1)::r1)∧(r1= []→BT ((z1,d1)::r1)=p+1∧z1=u):=by
  rcases hend with e|⟨r2,e⟩
  ·rw [e]
   refine ⟨by show p+1≤p+1+0;omega,fun _=>⟨rfl,?_⟩⟩
   cases e;rfl
  ·rw [e]
   constructor
   ·show p+1≤d1+BT (r2++ [(u,p+1)])
    rw [Dd]
    show p+1≤d1+(BT r2+(p+1+0))
    omega
   ·intro h0
    subst h0
    cases r2<;>cases e
 have va:l.getD (BT g1+c1-1) 0=y1:=by
  have:=FN (y:=y1) (c:=c1) (i:=c1-1) (g:=g1) (h:=(z1,d1)::r1) (by omega)
  rw [←k1,←heq,show BT g1+(c1-1)=BT g1+c1-1 by omega] at this
  exact this
 have vb:l.getD (BT g1+c1-1+1) 0=z1:=by
  have:=FN (y:=z1) (c:=d1) (i:=0) (g:=g1++ [(y1,c1)]) (h:=r1) (by omega)
  rw [List.append_assoc] at this
  have e:(g1++([(y1,c1)]++(z1,d1)::r1))=(t0,p+1)::(z,d)::r:=k1.symm
  rw [e,←heq,Dd,show BT g1+BT [(y1,c1)]+0=BT g1+c1-1+1 by show BT g1+(c1+0)+0=_;omega] at this
  exact this
 refine ⟨BT g1+c1-1,⟨by omega,by omega,by rw [va];exact k2,?_,?_⟩,hI⟩
 ·rw [va,vb]
  rw [k1] at hin
  exact (JD (g:=g1) hin).2.1 (z1,d1) List.mem_cons_self
 ·rw [vb]
  rcases k3 with k3|k3
  ·exact .inl k3
  ·right
   obtain ⟨e1,e2⟩:=hge.2 k3
   exact ⟨by omega,by rw [e2];exact h2⟩
theorem Kns.iv_low (h:Kns l p t0 u mid) (h1:t<t0):ivI l t= -1:=by
 have e:gr l=(t0,p+1)::(mid++ [(u,p+1)]):=by rw [h.eq];exact Pr h.inc h.pos
 unfold ivI
 rw [TL,P6,e]
 show (if 0+(p+1)=l.length∨t<l.getD 0 0 then (-1:Int) else _)= -1
 rw [if_pos (.inr (by rw [h.first (Nat.zero_le p)];exact h1))]
theorem V7.max (h:Kns l p t0 u mid) {e i:Nat} (he:V7 l p t e) (hi:e<i) (hi2:i+p+1<l.length):t<l.getD i 0:=by
 have h1:=h.mono (i:=e+1) (j:=i) (by omega) (by omega)
 rcases he.ends with h2|⟨h2,_⟩
 ·grind
 ·omega
theorem Kns.near (h:Kns l p t0 u mid) {e:Nat} (he:p≤e) (he2:e+p+1<l.length) (hlt:l.getD e 0<l.getD (e+1) 0) {a b:Nat} (ha:a≤e) (hb:e<b) (hb2:b<l.length):l.getD a 0<l.getD b 0:=by
 have h1:=h.mono (i:=a) (j:=e) ha (by omega)
 have h2:=h.mono (i:=e+1) (j:=b) hb hb2
 grind
end
open Go.RowKit
set_option maxRecDepth 20000
set_option maxHeartbeats 1000000
theorem Wc {j:Nat} {x:Rat} (h:(toL (H8 x)).length≤j):Sz (j+1) x.den:=by
 unfold H8 at h
 by_cases hd:x.den=1
 ·rw [hd]
  exact AQ _ _ (Nat.lt_of_lt_of_le (show 1<4294967296^1 by decide) (Nat.pow_le_pow_right (by decide) (by omega)))
 ·rw [if_neg hd] at h
  exact Nat.le_trans h (by omega)
theorem Un {W0 w:World} {b j:Nat} : ∀ {l:List Rat} {off:Nat},ddL W0 w b off (l.flatMap (nmD j))→ ∀r∈l,RSz (j+1) r
 | [],_,_,r,hr=>by cases hr
 | x::l,off,hd,r,hr=>by
   rw [List.flatMap_cons] at hd
   replace hd:ddL W0 w b off (.q x j 0:: .q x j 1:: .q x j 2::l.flatMap (nmD j)):=hd
   simp only [ddL] at hd
   obtain ⟨_,⟨v1,_,_,b2⟩,⟨v2,_,_,c2⟩,t⟩:=hd
   rcases List.mem_cons.1 hr with rfl|hr
   ·unfold dd at b2 c2
    exact ⟨Nat.le_trans b2.2 (by omega),Wc c2.2⟩
   ·exact Un t r hr
theorem Vp {W0 w:World} {x:Value} {j:Nat} {l:List Rat} (h:dd W0 w x (.lst 3 l.length (l.flatMap (nmD j)))): ∀r∈l,RSz (j+1) r:=fun r hr=>by
 unfold dd at h
 obtain ⟨_,ao,cap,_,_,h3⟩:=h
 obtain ⟨b,off,_,h5⟩:=h3 fun h0=>by
  cases l with
  | nil=>cases hr
  | cons a l=>cases h0
 exact Un h5 r hr
theorem CV {P:Program} {A:World→Prop} {f:FuncId} {us:List AV} {R:AV} {i j:Nat} {l:List Rat} (hi:us[i]?=some (.one (Ax j l))) (h:(∀x∈l,RSz (j+1) x)→Ctr P A f us R):Ctr P A f us R:=by
 intro W0 w μ sz vs hA hF hb hin hv
 have hil:i<vs.length:=by rw [hv.1];exact (List.getElem?_eq_some_iff.1 hi).1
 have hc:cv W0 μ sz w vs[i] (.one (Ax j l)):=hv.2 i _ _ (Yi hil) hi
 have hd:dd W0 w vs[i] (.lst 3 l.length (l.flatMap (nmD j))):=hc
 exact h (Vp hd) W0 w μ sz vs hA hF hb hin hv
theorem Px {P:Program} {A:World→Prop} {f:FuncId} {us:List AV} {R:AV} {i j:Nat} {x:Rat} (hi:us[i]?=some (nm j x)) (h:RSz (j+1) x→Ctr P A f us R):Ctr P A f us R:=by
 intro W0 w μ sz vs hA hF hb hin hv
 have hil:i<vs.length:=by rw [hv.1];exact (List.getElem?_eq_some_iff.1 hi).1
 have hc:cv W0 μ sz w vs[i] (nm j x):=hv.2 i _ _ (Yi hil) hi
 obtain ⟨q,hq,h2⟩:=hc
 obtain ⟨ta,tb,tc,rfl⟩: ∃a b c,q= [a,b,c]:=by
  match q,h2.1 with
  | [a,b,c],_=>exact ⟨a,b,c,rfl⟩
 have hbb:cc W0 μ sz w tb (.q x j 1):=h2.2 1 tb _ rfl rfl
 have hcc:cc W0 μ sz w tc (.q x j 2):=h2.2 2 tc _ rfl rfl
 exact h ⟨Nat.le_trans hbb.2 (by omega),Wc hcc.2⟩ W0 w μ sz vs hA hF hb hin hv
theorem EQ {j:Nat} {l:List Rat} (h: ∀x∈l,RSz (j+1) x) (i:Nat):RSz (j+1) (nth l i):=by
 by_cases hi:i<l.length
 ·have e:nth l i=l[i]:=by show l.getD i 0=_;rw [List.getD_eq_getElem?_getD,List.getElem?_eq_getElem hi];rfl
  rw [e]
  exact h _ (List.getElem_mem hi)
 ·have e:nth l i=0:=by show l.getD i 0=_;rw [List.getD_eq_getElem?_getD,List.getElem?_eq_none (by omega)];rfl
  rw [e]
  exact (Gz (by omega)).1
theorem GJ {n n' a c:Nat→Rat} {p:Nat} (h: ∀q,q<2*p→n q=n' q): ∀ {s j:Nat},s+j≤p→dbW n p a c s j=dbW n' p a c s j
 | 0,j,_=>rfl
 | s+1,j,hs=>by
   unfold dbW
   rw [GJ h (s:=s) (j:=j) (by omega),GJ h (s:=s) (j:=j+1) (by omega)]
   unfold shR
   rw [h (s+j) (by omega),h (p+j) (by omega)]
theorem Fw {n n':Nat→Rat} {p:Nat} {t:Rat} (h: ∀q,q<2*p→n q=n' q): ∀ {d j:Nat},d≤p→j≤d→dbV n p t d j=dbV n' p t d j
 | 0,0,_,_=>rfl
 | 0,_+1,_,hj=>by omega
 | d+1,0,hd,_=>by
   unfold dbV
   rw [Fw h (d:=d) (j:=0) (by omega) (by omega)]
   unfold shR
   rw [h (p-1-d) (by omega),h p (by omega)]
 | d+1,j+1,hd,hj=>by
   unfold dbV
   rw [Fw h (d:=d) (j:=j) (by omega) (by omega)]
   have e1:shR n (p-1-d+j) (p+j) t=shR n' (p-1-d+j) (p+j) t:=by unfold shR;rw [h (p-1-d+j) (by omega),h (p+j) (by omega)]
   rw [e1]
   by_cases h2:j+1≤d
   ·have e2:shR n (p-1-d+(j+1)) (p+(j+1)) t=shR n' (p-1-d+(j+1)) (p+(j+1)) t:=by unfold shR;rw [h (p-1-d+(j+1)) (by omega),h (p+(j+1)) (by omega)]
    rw [Fw h (d:=d) (j:=j+1) (by omega) h2,e2]
   ·rw [Fv (n:=n) (d:=d) (j:=j+1) (by omega),Fv (n:=n') (d:=d) (j:=j+1) (by omega)]
    grind
abbrev kn (l:List Rat) (p i:Nat):Nat→Rat:=fun x=>l.getD (i+1-p+x) 0
theorem DS {l:List Rat} {p i x:Nat} (hp:p≤i+1) (hx:x<2*p):nth (Dw l p i) x=kn l p i x:=by
 show (Dw l p i).getD x 0=l.getD (i+1-p+x) 0
 unfold Dw
 rw [List.getD_eq_getElem?_getD,List.getElem?_drop,List.getElem?_take,if_pos (by omega),←List.getD_eq_getElem?_getD]
theorem Nl {l:List Rat} {p i:Nat} (hp:p≤i+1) (h:i+p+1≤l.length):(Dw l p i).length=2*p:=by unfold Dw;rw [List.length_drop,List.length_take];omega
theorem Nk {l:List Rat} {p i:Nat} {x:Rat} (h:x∈Dw l p i):x∈l:=List.mem_of_mem_take (List.mem_of_mem_drop h)
theorem Tu {c:List Rat} {a b x:Nat} (hx:a+x<b):nth ((c.take b).drop a) x=c.getD (a+x) 0:=by
 show ((c.take b).drop a).getD x 0=_
 rw [List.getD_eq_getElem?_getD,List.getElem?_drop,List.getElem?_take,if_pos hx,←List.getD_eq_getElem?_getD]
theorem Tt {c:List Rat} {a b:Nat} {x:Rat} (h:x∈(c.take b).drop a):x∈c:=List.mem_of_mem_take (List.mem_of_mem_drop h)
def J0 (l:List Rat) (p i:Nat) (c args:List Rat):Rat:=dbW (kn l p i) p (nth args) (fun x=>c.getD (i-p+x) 0) p 0
theorem K9 {l c args:List Rat} {p i:Nat} (hp:p≤i):dbW (nth (Dw l p i)) p (nth args) (nth ((c.take (i+1)).drop (i-p))) p 0=J0 l p i c args:=by
 unfold J0
 rw [GJ (fun q hq=>DS (by omega) hq) (by omega)]
 exact Gj (fun _ _=>rfl) fun q _ hq=>Tu (by omega)
theorem SQ {jn jc jt p:Nat} {near c args:List Rat} (h1:jn≤1000000) (h3:jt≤1000000) (hJ:gwt (jn+1) (jt+1) (jc+1) p≤1000000) (hp:1≤p∧p≤6) (hn:near.length=2*p) (hc:c.length=p+1) (ha:args.length=p)
  (hd: ∀s j,s<p→j<p-s→nth near (p+j)-nth near (s+j)≠0):
  Ctr Tryz.prog Amb 88 [.one (Ax jn near),.one (Ax jc c),.one (Ax jt args)] (nm (gwt (jn+1) (jt+1) (jc+1) p) (dbW (nth near) p (nth args) (nth c) p 0)):=by
 refine CV (i:=0) rfl fun z0=>CV (i:=1) rfl fun z1=>CV (i:=2) rfl fun z2=>?_
 have hg:jc≤gwt (jn+1) (jt+1) (jc+1) p:=Nat.le_trans (show jc≤jc+1 by omega) (FX (s:=0) (Nat.zero_le p))
 have h:=P5 (jn:=jn) (jc:=jc) (jt:=jt) (J:=gwt (jn+1) (jt+1) (jc+1) p) h1 hg h3 hJ hp hn hc ha hd fun s j hs hj=>Ts (EQ z0) (EQ z2) (EQ z1) hc hs hj
 rw [Qb hc] at h
 exact h
theorem Ja {j jc jt p i:Nat} {l c args:List Rat} (hj:j≤1000000) (hjt:jt≤1000000) (hJ:gwt (j+1) (jt+1) (jc+1) p≤1000000) (hl:l.length≤1000000) (hp:1≤p∧p≤6) (hi:p≤i) (hi2:i+p+1<l.length) (hlt:l.getD i 0<l.getD (i+1) 0) (hc:c.length=l.length-p-1) (ha:args.length=p)
  (hd: ∀s j,s<p→j<p-s→kn l p i (p+j)-kn l p i (s+j)≠0):
  Ctr Tryz.prog Amb 42 [.one (Ax j l),Aj (p:Nat),.one (Ax jc c),Aj (i:Nat),.one (Ax jt args)] (.tup [nm (gwt (j+1) (jt+1) (jc+1) p) (J0 l p i c args),Aj 0]):=by
 refine CV (i:=0) rfl fun z0=>CV (i:=2) rfl fun z1=>CV (i:=4) rfl fun z2=>?_
 have hg:jc≤gwt (j+1) (jt+1) (jc+1) p:=Nat.le_trans (show jc≤jc+1 by omega) (FX (s:=0) (Nat.zero_le p))
 have hcl:((c.take (i+1)).drop (i-p)).length=p+1:=by rw [List.length_drop,List.length_take];omega
 have h:=Oy (j:=j) (jc:=jc) (jt:=jt) (J:=gwt (j+1) (jt+1) (jc+1) p) hj hg hjt hJ hl hp hi hi2 hlt hc ha (fun s q hs hq=>by
  have:=hd s q hs hq
  rw [←DS (l:=l) (p:=p) (i:=i) (x:=p+q) (by omega) (by omega),←DS (l:=l) (p:=p) (i:=i) (x:=s+q) (by omega) (by omega)] at this
  exact this) fun s q hs hq=>Ts (EQ fun x hx=>z0 x (Nk hx)) (EQ z2) (EQ fun x hx=>z1 x (Tt hx)) hcl hs hq
 rw [Qb hcl,K9 hi] at h
 exact h
end Go.Proofs.YtkmalkcgkcpcmaaGreatDoor
