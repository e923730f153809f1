/-
  Several texts in one: Fo, Fm.
-/
import Derived.Test.YteiibidmicgjoaaGreatDoorGl
namespace Go.Proofs.YteiibidmicgjoaaGreatDoor
open Go.RowKit
set_option linter.unusedVariables false
set_option linter.unusedSimpArgs false
def numsC:List K→Option (List (Num×Nat))
 | []=>some []
 | a::b::c::r=>match numOf (.agg [a,b,c]),numsC r with
   | some x,some l=>some (x::l)
   | _,_=>none
 | _=>none
def numsA:List KA→Option (List (Num×Nat))
 | []=>some []
 | .agg cs::r=>match numsC cs,numsA r with
   | some l,some m=>some (l++m)
   | _,_=>none
 | _=>none
def genC (J:Nat):Nat→Nat→List K
 | _,0=> []
 | i,k+1=> .q (nvar (8*i)) J 0:: .q (nvar (8*i)) J 1:: .q (nvar (8*i)) J 2::genC J (i+1) k
def genA (J:Nat):Nat→List Nat→List KA
 | _,[]=> []
 | i,k::r=> .agg (genC J i k)::genA J (i+k) r
def shpA:List KA→List Nat→Bool
 | [],[]=>true
 | .agg cs::r,k::s=>Nat.beq cs.length (3*k)&&shpA r s
 | _,_=>false
def getN:List (Num×Nat)→Nat→Num
 | [],_=>⟨[],0⟩
 | x::r,i=>match i with | 0=>x.1 | i+1=>getN r i
def cellsN:List (Num×Nat)→List K
 | []=> []
 | (n,j)::r=> .q n j 0:: .q n j 1:: .q n j 2::cellsN r
section
variable {V:Nat→Rat} {ns:List (Num×Nat)}
theorem ev_nil (d:Nat):Num.ev V ⟨[],d⟩=0:=by
 show (0:Rat)/((d+1:Nat):Rat)=0
 have:=succ_ne d
 grind
end
theorem numOf_cells {E:Env} {J:Nat} {a b c:K} {n:Num} {j:Nat} (h:numOf (.agg [a,b,c])=some (n,j)) (hj:j≤J):EntC (cK E a) (.q (n.ev E.V) J 0)∧EntC (cK E b) (.q (n.ev E.V) J 1)∧EntC (cK E c) (.q (n.ev E.V) J 2):=by
 unfold numOf at h
 split at h
 ·rename_i n1 j1 n2 j2 n3 j3 e
  injection e with e
  injection e with e1 e
  injection e with e2 e
  injection e with e3 e
  subst e1;subst e2;subst e3
  split at h
  ·rename_i hc
   cases h
   simp only [Bool.and_eq_true,Nat.beq_eq] at hc
   obtain ⟨⟨⟨h1,h2⟩,h3⟩,h4⟩:=hc
   have e1:=neq_ok h1
   have e2:=neq_ok h2
   subst e1;subst e2;subst h3;subst h4
   exact ⟨EntC.q rfl hj,EntC.q rfl hj,EntC.q rfl hj⟩
  ·cases h
 ·rename_i e
  cases h
  injection e with e
  injection e with e1 e
  injection e with e2 e
  injection e with e3 e
  subst e1;subst e2;subst e3
  rw [ev_nil]
  exact ⟨EntC.z0,EntC.z1,EntC.z2⟩
 ·cases h
def bndJ (J:Nat) (ns:List (Num×Nat)):Bool:=ns.all fun p=>Nat.ble p.2 J
theorem ent_gen {E:Env} {J:Nat} {V':Nat→Rat} : ∀ {cs:List K} {ns:List (Num×Nat)} {i k:Nat},numsC cs=some ns→cs.length=3*k→bndJ J ns=true→(∀t x,ns[t]?=some x→V' (8*(i+t))=x.1.ev E.V)→
  EntL (cs.map (cK E)) ((genC J i k).map (cK { E with V:=V' }))∧ns.length=k
 | [],ns,i,k,h,hk,_,_=>by
   cases h
   have:k=0:=by simp at hk;omega
   subst this
   exact ⟨.nil,rfl⟩
 | [_],_,_,_,h,_,_,_=>by cases h
 | [_,_],_,_,_,h,_,_,_=>by cases h
 | a::b::c::r,ns,i,k,h,hk,hJ,hV=>by
   unfold numsC at h
   split at h
   ·rename_i x l hx hl
    cases h
    obtain ⟨n,j⟩:=x
    match k,hk with
    | 0,hk=>simp at hk
    | k+1,hk=>
      have hJ:=List.all_eq_true.1 hJ
      have hj:=Nat.le_of_ble_eq_true (hJ (n,j) List.mem_cons_self)
      obtain ⟨e1,e2,e3⟩:=numOf_cells (E:=E) hx hj
      obtain ⟨h1,h2⟩:=ent_gen (E:=E) (J:=J) (V':=V') (i:=i+1) (k:=k) hl (by simp at hk;omega) (List.all_eq_true.2 fun p hp=>hJ p (List.mem_cons_of_mem _ hp)) fun t x ht=>by
       rw [show 8*(i+1+t)=8*(i+(t+1)) by omega]
       exact hV (t+1) x (by simpa using ht)
      have hv:=hV 0 _ rfl
      rw [Nat.add_zero] at hv
      refine ⟨?_,by simp [h2]⟩
      have q: ∀s,cK { E with V:=V' } (.q (nvar (8*i)) J s)= .q (n.ev E.V) J s:=fun s=>by
       show C.q ((nvar (8*i)).ev V') J s=_
       rw [nvar_ev,hv]
      show EntL (cK E a::cK E b::cK E c::r.map (cK E)) (cK _ (.q (nvar (8*i)) J 0)::cK _ (.q (nvar (8*i)) J 1)::cK _ (.q (nvar (8*i)) J 2)::(genC J (i+1) k).map _)
      rw [q 0,q 1,q 2]
      exact .cons e1 (.cons e2 (.cons e3 h1))
   ·cases h
theorem ents_gen {E:Env} {J:Nat} {V':Nat→Rat} : ∀ {args:List KA} {shp:List Nat} {ns:List (Num×Nat)} {i:Nat},numsA args=some ns→shpA args shp=true→bndJ J ns=true→(∀t x,ns[t]?=some x→V' (8*(i+t))=x.1.ev E.V)→
  Ents (args.map (aK E)) ((genA J i shp).map (aK { E with V:=V' }))
 | [],[],ns,i,h,_,_,_=> .nil
 | [],_::_,_,_,_,h,_,_=>by cases h
 | .one _::_,_,_,_,h,_,_,_=>by cases h
 | .tup _::_,_,_,_,h,_,_,_=>by cases h
 | .junk::_,_,_,_,h,_,_,_=>by cases h
 | .agg _::_,[],_,_,_,h,_,_=>by cases h
 | .agg cs::r,k::s,ns,i,h,hs,hJ,hV=>by
   unfold numsA at h
   split at h
   ·rename_i l m hl hm
    cases h
    unfold shpA at hs
    rw [Bool.and_eq_true,Nat.beq_eq] at hs
    have hJ:=List.all_eq_true.1 hJ
    obtain ⟨h1,h2⟩:=ent_gen (E:=E) (J:=J) (V':=V') (i:=i) hl hs.1 (List.all_eq_true.2 fun p hp=>hJ p (List.mem_append.2 (.inl hp))) fun t x ht=>hV t x (by
     rw [List.getElem?_append_left (List.getElem?_eq_some_iff.1 ht).1];exact ht)
    refine .cons (Ent.agg h1) (ents_gen hm hs.2 (List.all_eq_true.2 fun p hp=>hJ p (List.mem_append.2 (.inr hp))) fun t x ht=>?_)
    rw [show 8*(i+k+t)=8*(i+(k+t)) by omega]
    refine hV (k+t) x ?_
    rw [List.getElem?_append_right (by omega),show k+t-l.length=t by omega]
    exact ht
   ·cases h
theorem getN_get: ∀ {ns:List (Num×Nat)} {t:Nat} {x:Num×Nat},ns[t]?=some x→getN ns t=x.1
 | [],_,_,h=>by simp at h
 | y::r,0,x,h=>by simp at h;subst h;rfl
 | y::r,t+1,x,h=>getN_get (ns:=r) (by simpa using h)
end Go.Proofs.YteiibidmicgjoaaGreatDoor
namespace Go.Proofs.YteiibidmicgjoaaGreatDoor
open Go.RowKit
set_option linter.unusedVariables false
set_option linter.unusedSimpArgs false
abbrev Facts:=List (Poly×Nat)
inductive Fcr where
 | f (i:Nat)
 | n (i:Nat)
 | s (p:Poly)
 | a (i:Nat)
def nthF:Facts→Nat→Option (Poly×Nat)
 | [],_=>none
 | x::r,i=>match i with | 0=>some x | i+1=>nthF r i
def nthP:List Poly→Nat→Option Poly
 | [],_=>none
 | x::r,i=>match i with | 0=>some x | i+1=>nthP r i
def facP (ax:List Poly) (h:Facts):Fcr→Option (Poly×Bool)
 | .f i=>match nthF h i with
   | some (p,s)=>(match s with | 1=>some (p,true) | 2=>some (pscale (-1) p,true) | _=>none)
   | none=>none
 | .n i=>match nthF h i with
   | some (p,s)=>(match s with | 1=>some (pmul p p,true) | 2=>some (pmul p p,true) | 3=>some (pmul p p,true) | _=>none)
   | none=>none
 | .s p=>some (pmul p p,false)
 | .a i=>match nthP ax i with | some p=>some (p,false) | none=>none
def prodP (ax:List Poly) (h:Facts):List Fcr→Option (Poly×Bool)
 | []=>some ([([],1)],true)
 | f::r=>match facP ax h f,prodP ax h r with
   | some (p,b),some (q,c)=>some (pmul p q,b&&c)
   | _,_=>none
def sumP (ax:List Poly) (h:Facts):List (Nat×List Fcr)→Option (Poly×Bool)
 | []=>some ([],false)
 | (c,fs)::r=>match prodP ax h fs,sumP ax h r with
   | some (p,b),some (q,d)=>some (padd (pscale (.ofNat (c+1)) p) q,b || d)
   | _,_=>none
def zerP (az:List Poly) (h:Facts):List (Bool×Nat×Poly)→Option Poly
 | []=>some []
 | (b,i,q)::r=>match (match b with
   | true=>nthP az i
   | false=>(match nthF h i with | some (p,0)=>some p | _=>none)),zerP az h r with
  | some p,some s=>some (padd (pmul p q) s)
  | _,_=>none
structure Cert where
 h:Facts
 ts:List (Nat×List Fcr)
 zs:List (Bool×Nat×Poly)
def certB (ax az:List Poly) (c:Cert):Bool:=match sumP ax c.h c.ts,zerP az c.h c.zs with
 | some (p,true),some q=>(match padd p q with | []=>true | _=>false)
 | _,_=>false
def infOf:List Cert→Inf
 | []=> []
 | c::r=>c.h::infOf r
section
variable {V:Nat→Rat} {ax az:List Poly} {h:Facts}
theorem nthF_mem: ∀ {h:Facts} {i:Nat} {x:Poly×Nat},nthF h i=some x→x∈h
 | y::r,0,x,e=>by cases e;exact List.mem_cons_self
 | y::r,i+1,x,e=>List.mem_cons_of_mem _ (nthF_mem (h:=r) e)
theorem nthP_mem: ∀ {h:List Poly} {i:Nat} {x:Poly},nthP h i=some x→x∈h
 | y::r,0,x,e=>by cases e;exact List.mem_cons_self
 | y::r,i+1,x,e=>List.mem_cons_of_mem _ (nthP_mem (h:=r) e)
def signed (x:Rat) (b:Bool):Prop:=0≤x∧(b=true→0<x)
theorem signed_pos {x:Rat} (h:0<x):signed x true:=⟨Rat.le_of_lt h,fun _=>h⟩
theorem rat_sq (x:Rat):0≤x*x:=by
 rcases Std.lt_trichotomy (a:=(0:Rat)) (b:=x) with h1 | h1 | h1
 ·exact Rat.le_of_lt (Rat.mul_pos h1 h1)
 ·rw [←h1,Rat.mul_zero];exact Rat.le_refl
 ·have:=Rat.mul_pos (show 0< -x by grind) (show 0< -x by grind)
  grind
theorem rat_sq_pos {x:Rat} (h:x≠0):0<x*x:=by
 rcases Std.lt_trichotomy (a:=(0:Rat)) (b:=x) with h1 | h1 | h1
 ·exact Rat.mul_pos h1 h1
 ·exact absurd h1.symm h
 ·have:=Rat.mul_pos (show 0< -x by grind) (show 0< -x by grind)
  grind
theorem signed_mul {x y:Rat} {b c:Bool} (h1:signed x b) (h2:signed y c):signed (x*y) (b&&c):=
 ⟨Rat.mul_nonneg h1.1 h2.1,fun e=>by
  rw [Bool.and_eq_true] at e
  exact Rat.mul_pos (h1.2 e.1) (h2.2 e.2)⟩
theorem signed_add {x y:Rat} {b c:Bool} (h1:signed x b) (h2:signed y c):signed (x+y) (b || c):=by
 have a1:=h1.1
 have a2:=h2.1
 refine ⟨by grind,fun e=>?_⟩
 rw [Bool.or_eq_true] at e
 rcases e with e | e
 ·have:=h1.2 e;grind
 ·have:=h2.2 e;grind
theorem facP_ok (hax: ∀p∈ax,0≤evP V p) (hh: ∀x∈h,sgOk (evP V x.1) x.2): ∀ {f:Fcr} {p:Poly} {b:Bool},facP ax h f=some (p,b)→signed (evP V p) b
 | .f i,p,b,e=>by
   replace e:(match nthF h i with
    | some (p,s)=>(match s with | 1=>some (p,true) | 2=>some (pscale (-1) p,true) | _=>none)
    | none=>none)=some (p,b):=e
   split at e
   ·rename_i q s hq
    have hs:=hh _ (nthF_mem hq)
    split at e
    ·cases e;exact signed_pos hs
    ·cases e
     rw [evP_pscale]
     have hs:evP V q<0:=hs
     have e1:((-1:Int):Rat)= -1:=rfl
     rw [e1]
     exact signed_pos (by grind)
    ·cases e
   ·cases e
 | .n i,p,b,e=>by
   replace e:(match nthF h i with
    | some (p,s)=>(match s with | 1=>some (pmul p p,true) | 2=>some (pmul p p,true) | 3=>some (pmul p p,true) | _=>none)
    | none=>none)=some (p,b):=e
   split at e
   ·rename_i q s hq
    have hs:=hh _ (nthF_mem hq)
    split at e
    ·cases e
     have hs:0<evP V q:=hs
     rw [evP_pmul];exact signed_pos (rat_sq_pos (by grind))
    ·cases e
     have hs:evP V q<0:=hs
     rw [evP_pmul];exact signed_pos (rat_sq_pos (by grind))
    ·cases e
     rw [evP_pmul];exact signed_pos (rat_sq_pos hs)
    ·cases e
   ·cases e
 | .s q,p,b,e=>by cases e;rw [evP_pmul];exact ⟨rat_sq _,fun h=>by cases h⟩
 | .a i,p,b,e=>by
   replace e:(match nthP ax i with | some p=>some (p,false) | none=>none)=some (p,b):=e
   split at e
   ·rename_i q hq
    cases e
    exact ⟨hax _ (nthP_mem hq),fun h=>by cases h⟩
   ·cases e
theorem prodP_ok (hax: ∀p∈ax,0≤evP V p) (hh: ∀x∈h,sgOk (evP V x.1) x.2): ∀ {fs:List Fcr} {p:Poly} {b:Bool},prodP ax h fs=some (p,b)→signed (evP V p) b
 | [],p,b,e=>by
   cases e
   have:evP V [([],1)]=1:=by
    show ((1:Int):Rat)*1+0=1
    have h1:((1:Int):Rat)=1:=rfl
    rw [h1];grind
   rw [this];exact signed_pos (by decide)
 | f::r,p,b,e=>by
   unfold prodP at e
   split at e
   ·rename_i q b q' b' h1 h2
    cases e
    rw [evP_pmul]
    exact signed_mul (facP_ok hax hh h1) (prodP_ok hax hh h2)
   ·cases e
theorem sumP_ok (hax: ∀p∈ax,0≤evP V p) (hh: ∀x∈h,sgOk (evP V x.1) x.2): ∀ {ts:List (Nat×List Fcr)} {p:Poly} {b:Bool},sumP ax h ts=some (p,b)→signed (evP V p) b
 | [],p,b,e=>by cases e;exact ⟨by show (0:Rat)≤0;exact Rat.le_refl,fun h=>by cases h⟩
 | (c,fs)::r,p,b,e=>by
   unfold sumP at e
   split at e
   ·rename_i q b q' b' h1 h2
    cases e
    have hc:(0:Rat)<((c+1:Nat):Rat):=by
     have:((0:Nat):Rat)<((c+1:Nat):Rat):=Rat.natCast_lt_natCast.2 (Nat.succ_pos c)
     exact this
    rw [evP_padd,evP_pscale,ofNat_cast]
    have:=signed_add (signed_mul (signed_pos hc) (prodP_ok hax hh h1)) (sumP_ok hax hh h2)
    rw [Bool.true_and] at this
    exact this
   ·cases e
theorem zerP_ok (haz: ∀p∈az,evP V p=0) (hh: ∀x∈h,sgOk (evP V x.1) x.2): ∀ {zs:List (Bool×Nat×Poly)} {p:Poly},zerP az h zs=some p→evP V p=0
 | [],p,e=>by cases e;rfl
 | (b,i,q)::r,p,e=>by
   unfold zerP at e
   split at e
   ·rename_i p1 s1 h1 h2
    cases e
    have hz:evP V p1=0:=by
     split at h1
     ·exact haz _ (nthP_mem h1)
     ·split at h1
      ·rename_i p2 hp
       cases h1
       exact hh _ (nthF_mem hp)
      ·cases h1
    rw [evP_padd,evP_pmul,hz,zerP_ok haz hh h2];grind
   ·cases e
theorem certB_ok (hax: ∀p∈ax,0≤evP V p) (haz: ∀p∈az,evP V p=0) {c:Cert} (h:certB ax az c=true): ¬ ∀x∈c.h,sgOk (evP V x.1) x.2:=fun hh=>by
 unfold certB at h
 split at h
 ·rename_i p q h1 h2
  split at h
  ·rename_i h3
   have e1:=(sumP_ok hax hh h1).2 rfl
   have e2:=zerP_ok haz hh h2
   have e3:=evP_padd (V:=V) p q
   rw [h3,e2] at e3
   have e4:evP V []=0:=rfl
   rw [e4] at e3
   grind
  ·cases h
 ·cases h
theorem infOf_mem: ∀ {l:List Cert} {h:Facts},h∈infOf l→ ∃c∈l,c.h=h
 | c::r,h,hm=>by
   rcases List.mem_cons.1 hm with rfl | hm
   ·exact ⟨c,List.mem_cons_self,rfl⟩
   ·obtain ⟨d,hd,e⟩:=infOf_mem hm
    exact ⟨d,List.mem_cons_of_mem _ hd,e⟩
end
theorem infC {E:Env} {ax az:List Poly} (hax: ∀p∈ax,0≤evP E.V p) (haz: ∀p∈az,evP E.V p=0) {l:List Cert} (h:l.all (certB ax az)=true):InfOk E (infOf l):=fun f hf=>by
 obtain ⟨c,hc,rfl⟩:=infOf_mem hf
 exact certB_ok hax haz (List.all_eq_true.1 h c hc)
def spanAx (h a:Nat):Poly:= [([256*h+32*a+29],1),([256*h+32*a+21],-1)]
theorem spanAx_ok {E:Env} {n:Nat} (hD:DiceEnv E n) (h a:Nat) (ha:a<n):0≤evP E.V (spanAx h a):=by
 have c1:((1:Int):Rat)=1:=rfl
 have c2:((-1:Int):Rat)= -1:=rfl
 have h1:=spanD_le (E.L a) (posL (E.L a) h)
 show 0≤((1:Int):Rat)*(E.V (256*h+32*a+29)*1)+(((-1:Int):Rat)*(E.V (256*h+32*a+21)*1)+0)
 rw [hD.slo a h ha,hD.shi a h ha,c1,c2];grind
end Go.Proofs.YteiibidmicgjoaaGreatDoor
