/-
  Several texts in one: Zca, Zcb, Zcc, Zcd.
-/
import Derived.Test.YtfineedhebhpaaaGreatDoorBj
import Derived.Test.YtfineedhebhpaaaGreatDoorId
import Derived.Test.YtfineedhebhpaaaGreatDoorIc
import Derived.Test.YtfineedhebhpaaaGreatDoorIb
import Derived.Test.YtfineedhebhpaaaGreatDoorHy
namespace Go.Proofs.YtfineedhebhpaaaGreatDoor
set_option linter.unusedVariables false
set_option linter.unusedSimpArgs false
section
variable {n:Nat→Rat} {p:Nat} {a b c e:Nat→Rat} {t:Rat}
end
section
variable {near args c w l:List Rat} {p s j i J jn jt:Nat} {t x:Rat}
end
theorem Da: ∀ {g h:List (Rat×Nat)},BE (g++h)=BE g+BE h
 | [],h=>(Nat.zero_add _).symm
 | (y,c)::g,h=>by
   show c+BE (g++h)=c+BE g+BE h
   rw [Da (g:=g)];omega
theorem FG {y:Rat} {c i:Nat} : ∀ {g h:List (Rat×Nat)},i<c→(rep (g++(y,c)::h)).getD (BE g+i) 0=y:=fun {g h} hi=>by
 rw [Eu,List.getD_eq_getElem?_getD,List.getElem?_append_right (by rw [DL];omega),DL,Nat.add_sub_cancel_left]
 show ((List.replicate c y++rep h)[i]?).getD 0=y
 rw [List.getElem?_append_left (by rw [List.length_replicate];exact hi),List.getElem?_replicate,if_pos hi]
 rfl
theorem IU: ∀ {g:List (Rat×Nat)} {i:Nat},i<BE g→ ∃g1 y c h j,g=g1++(y,c)::h∧j<c∧i=BE g1+j
 | [],i,h=>absurd h (Nat.not_lt_zero i)
 | (y,c)::g,i,h=>by
   have h:i<c+BE g:=h
   by_cases hi:i<c
   ·exact ⟨[],y,c,g,i,rfl,hi,(Nat.zero_add i).symm⟩
   ·obtain ⟨g1,z,d,h2,j,rfl,h3,h4⟩:=IU (g:=g) (i:=i-c) (by omega)
    refine ⟨(y,c)::g1,z,d,h2,j,rfl,h3,?_⟩
    show i=c+BE g1+j
    omega
theorem Jj {y:Rat} {c:Nat} : ∀ {g h:List (Rat×Nat)},Et (g++(y,c)::h)→(∀a∈g,a.1<y)∧Et ((y,c)::h)
 | [],h,hi=>⟨fun a ha=>(by cases ha),hi⟩
 | (z,d)::g,h,hi=>by
   have hi:(∀a∈g++(y,c)::h,z<a.1)∧Et (g++(y,c)::h):=hi
   obtain ⟨h1,h2⟩:=Jj (g:=g) hi.2
   refine ⟨fun a ha=>?_,h2⟩
   rcases List.mem_cons.1 ha with rfl|ha
   ·exact hi.1 (y,c) (List.mem_append.2 (.inr List.mem_cons_self))
   ·exact h1 a ha
theorem SN {g:List (Rat×Nat)} (hi:Et g) {i j:Nat} (hij:i≤j) (hj:j<BE g):(rep g).getD i 0≤(rep g).getD j 0:=by
 obtain ⟨g1,y,c,h,a,rfl,ha,rfl⟩:=IU (g:=g) (i:=i) (by omega)
 rw [FG ha]
 have h2:j-BE g1<BE ((y,c)::h):=by rw [Da] at hj;omega
 obtain ⟨g2,z,d,h3,b,he,hb,hjb⟩:=IU h2
 have e:g1++(y,c)::h=(g1++g2)++(z,d)::h3:=by rw [he,List.append_assoc]
 have hjj:j=BE (g1++g2)+b:=by rw [Da];omega
 rw [e,hjj,FG hb]
 cases g2 with
 | nil=>cases he;exact Rat.le_refl
 | cons q g2=>
   cases he
   have h5:=(Jj (g:=g1) hi).2
   exact Rat.le_of_lt (h5.1 (z,d) (List.mem_append.2 (.inr List.mem_cons_self)))
def ivP (l:List Rat) (t:Rat):List (Nat×Nat)→Int→Int
 | [],i=>i
 | x::xs,i=>if x.2=l.length∨t<l.getD x.1 0 then i else ivP l t xs ((x.2-1:Nat):Int)
theorem VH {l:List Rat} {t:Rat} : ∀ {xs:List (Rn l)} {i:Int},ivA l t xs i=ivP l t (xs.map (·.1)) i
 | [],_=>rfl
 | x::xs,i=>by
   show (if F9 l t x then i else ivA l t xs ((x.1.2-1:Nat):Int))=if x.1.2=l.length∨t<l.getD x.1.1 0 then i else ivP l t (xs.map (·.1)) ((x.1.2-1:Nat):Int)
   by_cases h:x.1.2=l.length∨t<l.getD x.1.1 0
   ·rw [if_pos h,if_pos (show F9 l t x from h)]
   ·rw [if_neg h,if_neg (show ¬F9 l t x from h),VH (xs:=xs)]
structure Vy (l:List Rat) (p:Nat) (t:Rat) (e:Nat):Prop where
 low:p≤e
 high:e+p+1<l.length
 begins:l.getD e 0≤t
 lt:l.getD e 0<l.getD (e+1) 0
 ends:t<l.getD (e+1) 0∨(e+p+2=l.length∧t≤l.getD (e+1) 0)
theorem Nd {l:List Rat} {t:Rat} : ∀ {h:List (Rat×Nat)} {g:List (Rat×Nat)} {y:Rat} {c:Nat} {z:Rat} {d:Nat} {i:Int},l=rep (g++(y,c)::(z,d)::h)→(∀a∈g++(y,c)::(z,d)::h,1≤a.2)→y≤t→
  ∃g1 y1 c1 z1 d1 h1,g++(y,c)::(z,d)::h=g1++(y1,c1)::(z1,d1)::h1∧y1≤t∧(t<z1∨h1= [])∧ivP l t (rg (BE g) ((y,c)::(z,d)::h)) i=((BE g1+c1-1:Nat):Int)
 | h,g,y,c,z,d,i,hl,hp,hy=>by
   have hc:1≤c:=hp (y,c) (by simp)
   have hd:1≤d:=hp (z,d) (by simp)
   have hlen:l.length=BE g+(c+(d+BE h)):=by rw [hl,DL,Da];rfl
   have v1:l.getD (BE g) 0=y:=by rw [hl];exact FG (i:=0) (by omega)
   have v2:l.getD (BE g+c) 0=z:=by
    have:=FG (y:=z) (c:=d) (i:=0) (g:=g++ [(y,c)]) (h:=h) (by omega)
    rw [Da,List.append_assoc] at this
    rw [hl]
    exact this
   show ∃g1 y1 c1 z1 d1 h1,_∧_∧_∧(if BE g+c=l.length∨t<l.getD (BE g) 0 then i else ivP l t (rg (BE g+c) ((z,d)::h)) ((BE g+c-1:Nat):Int))=_
   have ht: ¬t<y:=Rat.not_lt.2 hy
   rw [if_neg (by rw [v1];rintro (h1|h1);omega;exact ht h1)]
   by_cases htz:t<z
   ·refine ⟨g,y,c,z,d,h,rfl,hy,.inl htz,?_⟩
    show (if BE g+c+d=l.length∨t<l.getD (BE g+c) 0 then _ else _)=_
    rw [if_pos (.inr (by rw [v2];exact htz))]
   ·cases h with
    | nil=>
      refine ⟨g,y,c,z,d,[],rfl,hy,.inr rfl,?_⟩
      show (if BE g+c+d=l.length∨t<l.getD (BE g+c) 0 then _ else _)=_
      rw [if_pos (.inl (by rw [hlen];show BE g+c+d=BE g+(c+(d+0));omega))]
    | cons b h=>
      obtain ⟨u,f⟩:=b
      have e:g++(y,c)::(z,d)::(u,f)::h=(g++ [(y,c)])++(z,d)::(u,f)::h:=by rw [List.append_assoc];rfl
      obtain ⟨g1,y1,c1,z1,d1,h1,k1,k2,k3,k4⟩:=Nd (l:=l) (t:=t) (h:=h) (g:=g++ [(y,c)]) (y:=z) (c:=d) (z:=u) (d:=f) (i:=((BE g+c-1:Nat):Int)) (by rw [←e];exact hl) (by rw [←e];exact hp) (Rat.not_lt.1 htz)
      refine ⟨g1,y1,c1,z1,d1,h1,by rw [e];exact k1,k2,k3,?_⟩
      rw [←k4,Da]
      rfl
structure Kns (l:List Rat) (p:Nat) (t0 u:Rat) (mid:List (Rat×Nat)):Prop where
 eq:l=rep ((t0,p+1)::(mid++ [(u,p+1)]))
 ok: ∀a∈mid,1≤a.2∧a.2≤p
 inc:Et ((t0,p+1)::(mid++ [(u,p+1)]))
section
variable {l:List Rat} {p:Nat} {t0 u t:Rat} {mid:List (Rat×Nat)}
theorem Kns.pos (h:Kns l p t0 u mid): ∀a∈(t0,p+1)::(mid++ [(u,p+1)]),1≤a.2:=fun a ha=>by
 rcases List.mem_cons.1 ha with rfl|ha
 ·exact Nat.le_add_left 1 p
 ·rcases List.mem_append.1 ha with ha|ha
  ·exact (h.ok a ha).1
  ·rw [List.mem_singleton.1 ha];exact Nat.le_add_left 1 p
theorem Kns.len (h:Kns l p t0 u mid):l.length=p+1+(BE mid+(p+1)):=by
 rw [h.eq,DL]
 show p+1+BE (mid++ [(u,p+1)])=_
 rw [Da]
 rfl
theorem Kns.mono (h:Kns l p t0 u mid) {i j:Nat} (hij:i≤j) (hj:j<l.length):l.getD i 0≤l.getD j 0:=by
 rw [h.eq,DL] at hj
 rw [h.eq]
 exact SN h.inc hij hj
theorem Kns.first (h:Kns l p t0 u mid) {i:Nat} (hi:i≤p):l.getD i 0=t0:=by
 have:=FG (y:=t0) (c:=p+1) (i:=i) (g:= []) (h:=mid++ [(u,p+1)]) (by omega)
 rw [h.eq]
 rwa [show BE []+i=i from Nat.zero_add i] at this
theorem Kns.last (h:Kns l p t0 u mid) {i:Nat} (hi:l.length≤i+(p+1)) (hi2:i<l.length):l.getD i 0=u:=by
 have hl:=h.len
 have:=FG (y:=u) (c:=p+1) (i:=i-(p+1+BE mid)) (g:=(t0,p+1)::mid) (h:= []) (by omega)
 rw [h.eq]
 rw [show BE ((t0,p+1)::mid)+(i-(p+1+BE mid))=i by show p+1+BE mid+_=_;omega] at this
 exact this
theorem Kns.fst (h:Kns l p t0 u mid):Fz l=t0:=h.first (Nat.zero_le p)
theorem Kns.lst (h:Kns l p t0 u mid):Ea l=u:=h.last (by have:=h.len;omega) (by have:=h.len;omega)
theorem Kns.iv (h:Kns l p t0 u mid) (h1:t0≤t) (h2:t≤u): ∃e:Nat,Vy l p t e∧ivI l t=(e:Int):=by
 obtain ⟨z,d,r,hm⟩: ∃z d r,mid++ [(u,p+1)]=(z,d)::r:=by
  cases mid with
  | nil=>exact ⟨_,_,_,rfl⟩
  | cons b m=>obtain ⟨z,d⟩:=b;exact ⟨z,d,_,rfl⟩
 have hin:=h.inc
 have hpo:=h.pos
 have heq:=h.eq
 have hlen:=h.len
 rw [hm] at hin hpo heq
 obtain ⟨g1,y1,c1,z1,d1,r1,k1,k2,k3,k4⟩:=Nd (g:= []) (y:=t0) (c:=p+1) (z:=z) (d:=d) (h:=r) (i:= -1) heq hpo h1
 have k1:(t0,p+1)::(z,d)::r=g1++(y1,c1)::(z1,d1)::r1:=k1
 have hc1:1≤c1:=hpo (y1,c1) (by rw [k1];simp)
 have hd1:1≤d1:=hpo (z1,d1) (by rw [k1];simp)
 have hI:ivI l t=((BE g1+c1-1:Nat):Int):=by
  unfold ivI
  rw [VH,PC]
  have e:gr l=(t0,p+1)::(z,d)::r:=by rw [heq];exact OY hin hpo
  rw [e]
  exact k4
 have hlow:p+1≤BE g1+c1:=by
  cases g1 with
  | nil=>cases k1;show p+1≤0+(p+1);omega
  | cons b g1=>
    have hb:(t0,p+1)=b:=(List.cons.inj k1).1
    subst hb
    show p+1≤(p+1+BE g1)+c1
    omega
 have hend:(z1,d1)::r1= [(u,p+1)]∨ ∃r2,(z1,d1)::r1=(z1,d1)::(r2++ [(u,p+1)]):=by
  cases r1 with
  | nil=>
    left
    rw [←hm] at k1
    have:(((t0,p+1)::mid)++ [(u,p+1)]).getLast?=((g1++ [(y1,c1)])++ [(z1,d1)]).getLast?:=by rw [List.append_assoc];exact congrArg List.getLast? k1
    rw [List.getLast?_append,List.getLast?_append] at this
    simp at this
    simp [this]
  | cons b r1=>
    right
    rw [←hm] at k1
    obtain ⟨q,hq⟩: ∃q,(b::r1)=(b::r1).dropLast++ [q]:=⟨(b::r1).getLast (by simp),(List.dropLast_concat_getLast (by simp)).symm⟩
    have:(((t0,p+1)::mid)++ [(u,p+1)]).getLast?=((g1++ [(y1,c1),(z1,d1)]++(b::r1).dropLast)++ [q]).getLast?:=by
     rw [List.append_assoc,←hq,List.append_assoc];exact congrArg List.getLast? k1
    rw [List.getLast?_append,List.getLast?_append] at this
    simp at this
    exact ⟨(b::r1).dropLast,by rw [this,←hq]⟩
 have htot:BE g1+c1+BE ((z1,d1)::r1)=l.length:=by
  rw [heq,DL,k1,Da]
  show _=BE g1+(c1+BE ((z1,d1)::r1))
  omega
 have hge:p+1≤BE ((z1,d1)::r1)∧(r1= []→BE ((z1,d1)::r1)=p+1∧z1=u):=by
  rcases hend with e|⟨r2,e⟩
  ·rw [e]
   refine ⟨by show p+1≤p+1+0;omega,fun _=>⟨rfl,?_⟩⟩
   cases e;rfl
  ·rw [e]
   constructor
   ·show p+1≤d1+BE (r2++ [(u,p+1)])
    rw [Da]
    show p+1≤d1+(BE r2+(p+1+0))
    omega
   ·intro h0
    subst h0
    cases r2<;>cases e
 have va:l.getD (BE g1+c1-1) 0=y1:=by
  have:=FG (y:=y1) (c:=c1) (i:=c1-1) (g:=g1) (h:=(z1,d1)::r1) (by omega)
  rw [←k1,←heq,show BE g1+(c1-1)=BE g1+c1-1 by omega] at this
  exact this
 have vb:l.getD (BE g1+c1-1+1) 0=z1:=by
  have:=FG (y:=z1) (c:=d1) (i:=0) (g:=g1++ [(y1,c1)]) (h:=r1) (by omega)
  rw [List.append_assoc] at this
  have e:(g1++([(y1,c1)]++(z1,d1)::r1))=(t0,p+1)::(z,d)::r:=k1.symm
  rw [e,←heq,Da,show BE g1+BE [(y1,c1)]+0=BE g1+c1-1+1 by show BE g1+(c1+0)+0=_;omega] at this
  exact this
 refine ⟨BE g1+c1-1,⟨by omega,by omega,by rw [va];exact k2,?_,?_⟩,hI⟩
 ·rw [va,vb]
  rw [k1] at hin
  exact (Jj (g:=g1) hin).2.1 (z1,d1) List.mem_cons_self
 ·rw [vb]
  rcases k3 with k3|k3
  ·exact .inl k3
  ·right
   obtain ⟨e1,e2⟩:=hge.2 k3
   exact ⟨by omega,by rw [e2];exact h2⟩
theorem Vy.max (h:Kns l p t0 u mid) {e i:Nat} (he:Vy l p t e) (hi:e<i) (hi2:i+p+1<l.length):t<l.getD i 0:=by
 have h1:=h.mono (i:=e+1) (j:=i) (by omega) (by omega)
 rcases he.ends with h2|⟨h2,_⟩
 ·grind
 ·omega
theorem Kns.near (h:Kns l p t0 u mid) {e:Nat} (he:p≤e) (he2:e+p+1<l.length) (hlt:l.getD e 0<l.getD (e+1) 0) {a b:Nat} (ha:a≤e) (hb:e<b) (hb2:b<l.length):l.getD a 0<l.getD b 0:=by
 have h1:=h.mono (i:=a) (j:=e) ha (by omega)
 have h2:=h.mono (i:=e+1) (j:=b) hb hb2
 grind
end
open Go.RowKit
set_option maxRecDepth 20000
set_option maxHeartbeats 1000000
abbrev kn (l:List Rat) (p i:Nat):Nat→Rat:=fun x=>l.getD (i+1-p+x) 0
end Go.Proofs.YtfineedhebhpaaaGreatDoor
