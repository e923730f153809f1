/-
  Several texts in one: Fp, Fr.
-/
import Derived.Test.YteiibidmicgjoaaGreatDoorGo
namespace Go.Proofs.YteiibidmicgjoaaGreatDoor
open Go.RowKit
set_option linter.unusedVariables false
set_option linter.unusedSimpArgs false
set_option maxRecDepth 100000
inductive Dfn where
 | p (D:Poly)
 | g (k:Nat) (ns:List Num)
abbrev Lay:=List (Nat×Dfn)
abbrev Apps:=List (Nat×Nat×List Num)
def tabL:Lay→Tab
 | []=> []
 | (a,.p D)::r=>(a,D)::tabL r
 | (_,.g _ _)::r=>tabL r
def appL:Lay→Apps
 | []=> []
 | (_,.p _)::r=>appL r
 | (a,.g k ns)::r=>(a,k,ns)::appL r
def dfnV (gf:Nat→List Rat→Rat) (V:Nat→Rat) (a:Nat):Dfn→Rat
 | .p D=>namedV a (evP V D)
 | .g k ns=>gf k (ns.map fun n=>n.ev V)
def extY (gf:Nat→List Rat→Rat) (V:Nat→Rat):Lay→Nat→Rat
 | []=>V
 | (a,d)::r=>extY gf (fun v=>if v=a then dfnV gf V a d else V v) r
def noD (a:Nat):Dfn→Bool
 | .p D=>noA a D
 | .g _ ns=>ns.all fun n=>noA a n.p
def resD (a:Nat):Dfn→Bool
 | .p _=>Nat.beq (a % 8) 7 || Nat.beq (a % 8) 6
 | .g _ _=>Nat.beq (a % 8) 6
def layG:Lay→Bool
 | []=>true
 | (a,d)::r=>resD a d&&noD a d&&r.all (fun x=>noD x.1 d&&!Nat.beq x.1 a)&&layG r
section
variable {gf:Nat→List Rat→Rat}
theorem extY_out: ∀ {lay:Lay} {V:Nat→Rat} {v:Nat},(∀x∈lay,x.1≠v)→extY gf V lay v=V v
 | [],_,_,_=>rfl
 | (a,d)::r,V,v,h=>by
   show extY gf (fun v=>if v=a then dfnV gf V a d else V v) r v=V v
   rw [extY_out fun x hx=>h x (List.mem_cons_of_mem _ hx)]
   exact if_neg fun e=>h (a,d) List.mem_cons_self e.symm
theorem dfnV_congr {V V':Nat→Rat} {a:Nat} : ∀ {d:Dfn},(∀v,noD v d=false→V v=V' v)→dfnV gf V a d=dfnV gf V' a d
 | .p D,h=>by
   show namedV a (evP V D)=namedV a (evP V' D)
   rw [evP_congr (V:=V) (V':=V') fun t ht b hb=>h b (by
    show noA b D=false
    cases hn:noA b D with
    | false=>rfl
    | true=>exact absurd hb (noA_ok hn t ht))]
 | .g k ns,h=>by
   show gf k _=gf k _
   have:ns.map (fun n=>n.ev V)=ns.map fun n=>n.ev V':=List.map_congr_left fun n hn=>by
    show evP V n.p/_=evP V' n.p/_
    rw [evP_congr (V:=V) (V':=V') fun t ht b hb=>h b (by
     show (ns.all fun n=>noA b n.p)=false
     cases ha:ns.all fun n=>noA b n.p with
     | false=>rfl
     | true=>exact absurd hb (noA_ok (List.all_eq_true.1 ha n hn) t ht))]
   rw [this]
theorem extY_def: ∀ {lay:Lay} {V:Nat→Rat},layG lay=true→ ∀x∈lay,extY gf V lay x.1=dfnV gf (extY gf V lay) x.1 x.2
 | (a,d)::r,V,h,x,hx=>by
   unfold layG at h
   simp only [Bool.and_eq_true] at h
   obtain ⟨⟨⟨_,h2⟩,h3⟩,h4⟩:=h
   rcases List.mem_cons.1 hx with rfl | hx
   ·have hr: ∀y∈r,noD y.1 d=true∧y.1≠a:=fun y hy=>by
     have:=List.all_eq_true.1 h3 y hy
     rw [Bool.and_eq_true,Bool.not_eq_true'] at this
     exact ⟨this.1,fun e=>by rw [e] at this;simp at this⟩
    show extY gf (fun v=>if v=a then dfnV gf V a d else V v) r a=dfnV gf (extY gf (fun v=>if v=a then dfnV gf V a d else V v) r) a d
    rw [extY_out fun y hy=>(hr y hy).2]
    rw [if_pos rfl]
    refine dfnV_congr fun v hv=>?_
    rw [extY_out fun y hy=>fun e=>?_]
    ·rw [if_neg fun e=>?_]
     rw [e,h2] at hv
     cases hv
    ·rw [←e,(hr y hy).1] at hv
     cases hv
   ·exact extY_def h4 x hx
theorem layG_res: ∀ {lay:Lay},layG lay=true→ ∀x∈lay,resD x.1 x.2=true
 | (a,d)::r,h,x,hx=>by
   unfold layG at h
   simp only [Bool.and_eq_true] at h
   rcases List.mem_cons.1 hx with rfl | hx
   ·exact h.1.1.1
   ·exact layG_res h.2 x hx
theorem layG_7 {lay:Lay} (h:layG lay=true) {x:Nat×Dfn} (hx:x∈lay):x.1 % 8=7∨x.1 % 8=6:=by
 have:=layG_res h x hx
 obtain ⟨a,d⟩:=x
 cases d with
 | p D=>
   replace this:(Nat.beq (a % 8) 7 || Nat.beq (a % 8) 6)=true:=this
   rw [Bool.or_eq_true] at this
   exact this.imp Nat.eq_of_beq_eq_true Nat.eq_of_beq_eq_true
 | g k ns=>exact Or.inr (Nat.eq_of_beq_eq_true this)
theorem tabL_mem: ∀ {lay:Lay} {x:Nat×Poly},x∈tabL lay→(x.1,Dfn.p x.2)∈lay
 | (a,.p D)::r,x,h=>by
   rcases List.mem_cons.1 h with rfl | h
   ·exact List.mem_cons_self
   ·exact List.mem_cons_of_mem _ (tabL_mem h)
 | (a,.g k ns)::r,x,h=>List.mem_cons_of_mem _ (tabL_mem (lay:=r) h)
theorem appL_mem: ∀ {lay:Lay} {x:Nat×Nat×List Num},x∈appL lay→(x.1,Dfn.g x.2.1 x.2.2)∈lay
 | (a,.p D)::r,x,h=>List.mem_cons_of_mem _ (appL_mem (lay:=r) h)
 | (a,.g k ns)::r,x,h=>by
   rcases List.mem_cons.1 h with rfl | h
   ·exact List.mem_cons_self
   ·exact List.mem_cons_of_mem _ (appL_mem h)
def AppAll (gf:Nat→List Rat→Rat) (E:Env) (ap:Apps):Prop:= ∀x∈ap,E.V x.1=gf x.2.1 (x.2.2.map fun n=>n.ev E.V)
def envY (gf:Nat→List Rat→Rat) (lay:Lay) (L:Nat→List Int) (I:Nat→Int):Env:=⟨extY gf (baseV L I) lay,L,fun a h=>posL (L a) h,I,fun _ _ _=>0⟩
theorem envY_tab {lay:Lay} {L:Nat→List Int} {I:Nat→Int} (h:layG lay=true):TabAll (envY gf lay L I) (tabL lay):=fun x hx=>by
 have h1:=tabL_mem hx
 have h2:=extY_def (gf:=gf) (V:=baseV L I) h _ h1
 replace h2:(envY gf lay L I).V x.1=namedV x.1 (evP (envY gf lay L I).V x.2):=h2
 refine ⟨fun h7 h0=>?_,fun h6=>?_⟩
 ·have:namedV x.1 (evP (envY gf lay L I).V x.2)=(evP (envY gf lay L I).V x.2)⁻¹:=by unfold namedV;rw [h7]
  rw [h2,this]
  exact Rat.inv_mul_cancel _ h0
 ·rw [h2]
  unfold namedV
  rw [h6]
theorem envY_app {lay:Lay} {L:Nat→List Int} {I:Nat→Int} (h:layG lay=true):AppAll gf (envY gf lay L I) (appL lay):=fun x hx=>extY_def (gf:=gf) (V:=baseV L I) h _ (appL_mem hx)
theorem envY_base {lay:Lay} {L:Nat→List Int} {I:Nat→Int} (h:layG lay=true) {v:Nat} (hv:v % 8<6):(envY gf lay L I).V v=baseV L I v:=
 extY_out fun x hx=>fun e=>by
  have:=layG_7 h hx
  omega
theorem baseV_5 {L:Nat→List Int} {I:Nat→Int} (c:Nat):baseV L I (8*c+5)=spnV L I c:=by
 show (match Nat.beq ((8*c+5) % 8) 5 with | true=>spnV L I ((8*c+5)/8) | false=>_)=_
 rw [show (8*c+5) % 8=5 by omega,show (8*c+5)/8=c by omega]
theorem envY_dice {lay:Lay} {L:Nat→List Int} {I:Nat→Int} {n:Nat} (h:layG lay=true) (hn:n≤5) (hb: ∀a,a<n→(∀x∈L a,-9223372036854775808≤x∧x<9223372036854775808)∧(L a).length≤500):DiceEnv (envY gf lay L I) n:=by
 refine ⟨hb,fun a h=>rfl,fun a h' ha=>?_,fun a h' ha=>?_,fun a h' ha=>?_⟩
 ·rw [envY_base h (by omega)]
  show (match Nat.beq ((8*h'+a) % 8) 5 with | true=>spnV L I ((8*h'+a)/8) | false=>(numb (L ((8*h'+a) % 8)) (posL (L ((8*h'+a) % 8)) ((8*h'+a)/8))).1)=_
  rw [show (8*h'+a) % 8=a by omega,show (8*h'+a)/8=h' by omega,show Nat.beq a 5=false by
   cases hb:Nat.beq a 5 with
   | false=>rfl
   | true=>have:=Nat.eq_of_beq_eq_true hb;omega]
  rfl
 ·rw [envY_base h (by omega),show 256*h'+32*a+21=8*(32*h'+4*a+2)+5 by omega,baseV_5,spnV_lo (by omega)]
  rfl
 ·rw [envY_base h (by omega),show 256*h'+32*a+29=8*(32*h'+4*a+3)+5 by omega,baseV_5,spnV_hi (by omega)]
  rfl
theorem envY_int {lay:Lay} {L:Nat→List Int} {I:Nat→Int} {m:Nat} (h:layG lay=true) (hb: ∀a,a<m→ -9223372036854775808≤I a∧I a<9223372036854775808):IntEnv (envY gf lay L I) m:=
 ⟨hb,fun c _ hc=>by rw [envY_base h (by omega),baseV_5,spnV_int hc];rfl⟩
end
theorem lawY {f:Nat} (gf:Nat→List Rat→Rat) {lay:Lay} (nf:List Nat) {inf:Inf} {aw:List Nat} {ex:List (Nat×Leaf)} (m:Nat) (ha:AwOk aw) (ht:layG lay=true) (hx: ∀E:Env,TabAll E (tabL lay)→AppAll gf E (appL lay)→DiceEnv E 1→IntEnv E m→InfOk E inf∧ ∀p∈ex,LfOk Tryz.prog Amb E p.1 p.2)
  (h1:runB (tabL lay) nf inf 1 m [true] aw ex f (.one (.ints 0)::syms 0 m)=true) (h2:runB [] [] [] 0 m [false] aw [] f (.one (.ints 0)::syms 0 m)=true)
  {l:List Int} {I:Nat→Int} (hb: ∀x∈l,-9223372036854775808≤x∧x<9223372036854775808) (hI: ∀a,a<m→ -9223372036854775808≤I a∧I a<9223372036854775808):Ctr Tryz.prog Amb f (.one (.ints l)::intAs I 0 m) (.one (.v (.bool true))):=by
 by_cases hl:(l.length:Int)≤500
 ·have hd:=envY_dice (gf:=gf) (lay:=lay) (L:=fun _=>l) (I:=I) (n:=1) ht (by decide) fun a _=>⟨hb,by omega⟩
  have hT:=envY_tab (gf:=gf) (lay:=lay) (L:=fun _=>l) (I:=I) ht
  have hA:=envY_app (gf:=gf) (lay:=lay) (L:=fun _=>l) (I:=I) ht
  have hm:=envY_int (gf:=gf) (lay:=lay) (L:=fun _=>l) (I:=I) (m:=m) ht hI
  obtain ⟨hi,he⟩:=hx _ hT hA hd hm
  have:=run_ok1 hT hi hd hm (fun a b h=>by
   match a,h with
   | 0,h=>cases h;exact decide_eq_true hl
   | a+1,h=>simp at h) ha he h1
  rw [List.map_cons,syms_ok] at this
  exact this
 ·have hd:=envL_dice (tab:= []) (L:=fun _=>l) (I:=I) (n:=0) rfl (by decide) fun a h=>absurd h (Nat.not_lt_zero a)
  have:=run_ok (envL_tab rfl) (fun h hh=>by cases hh) hd (envL_int (m:=m) rfl hI) (fun a b h=>by
   match a,h with
   | 0,h=>cases h;exact decide_eq_false hl
   | a+1,h=>simp at h) ha noEx h2
  rw [List.map_cons,syms_ok] at this
  exact this
def numsEq:List Num→List Num→Bool
 | [],[]=>true
 | a::l,b::m=>neq a b&&numsEq l m
 | _,_=>false
theorem numsEq_ok: ∀ {l m:List Num},numsEq l m=true→l=m
 | [],[],_=>rfl
 | a::l,b::m,h=>by
   replace h:(neq a b&&numsEq l m)=true:=h
   rw [Bool.and_eq_true] at h
   rw [neq_ok h.1,numsEq_ok h.2]
 | [],_::_,h=>by cases h
 | _::_,[],h=>by cases h
def appAt:Apps→Nat→List Num→Option Nat
 | [],_,_=>none
 | x::r,k,ns=>match Nat.beq x.2.1 k&&numsEq x.2.2 ns with | true=>some x.1 | false=>appAt r k ns
theorem appAt_ok {gf:Nat→List Rat→Rat} {E:Env} : ∀ {ap:Apps} {k v:Nat} {ns:List Num},AppAll gf E ap→appAt ap k ns=some v→E.V v=gf k (ns.map fun n=>n.ev E.V)
 | x::r,k,v,ns,hA,h=>by
   unfold appAt at h
   split at h
   ·rename_i hb
    rw [Bool.and_eq_true] at hb
    cases h
    rw [hA x List.mem_cons_self,Nat.eq_of_beq_eq_true hb.1,numsEq_ok hb.2]
   ·exact appAt_ok (fun y hy=>hA y (List.mem_cons_of_mem _ hy)) h
theorem Ent.app {l1 l2 m1 m2:List C} (h1:Ent (.agg l1) (.agg m1)) (h2:Ent (.agg l2) (.agg m2)) (hn:l1.length=m1.length):Ent (.agg (l1++l2)) (.agg (m1++m2)):=fun W0 μ sz w x hh=>by
 obtain ⟨vs,rfl,hl,ha⟩:=hh
 have hl':vs.length=l1.length+l2.length:=by rw [hl,List.length_append]
 obtain ⟨us,e1,k1,k2⟩:=h1 W0 μ sz w (.agg (vs.take l1.length).toArray) ⟨_,rfl,by simp [hl'],fun i a b h h'=>by
  have hi:=(List.getElem?_eq_some_iff.1 h').1
  refine ha i a b ?_ ?_
  ·rw [List.getElem?_take_of_lt hi] at h;exact h
  ·rw [List.getElem?_append_left hi];exact h'⟩
 obtain ⟨ts,e2,k3,k4⟩:=h2 W0 μ sz w (.agg (vs.drop l1.length).toArray) ⟨_,rfl,by simp [hl'],fun i a b h h'=>by
  refine ha (l1.length+i) a b ?_ ?_
  ·rw [List.getElem?_drop] at h;exact h
  ·rw [List.getElem?_append_right (by omega)];simpa using h'⟩
 have e1:us=vs.take l1.length:=by simpa using e1.symm
 have e2:ts=vs.drop l1.length:=by simpa using e2.symm
 subst e1 e2
 refine ⟨vs,rfl,?_,fun i a b h h'=>?_⟩
 ·have:=congrArg List.length (List.take_append_drop l1.length vs)
  rw [List.length_append,k1,k3] at this
  rw [List.length_append];exact this.symm
 ·by_cases hi:i<l1.length
  ·refine k2 i a b ?_ ?_
   ·rw [List.getElem?_take_of_lt hi];exact h
   ·rw [List.getElem?_append_left (by omega)] at h';exact h'
  ·refine k4 (i-l1.length) a b ?_ ?_
   ·rw [List.getElem?_drop,show l1.length+(i-l1.length)=i by omega];exact h
   ·rw [List.getElem?_append_right (by omega),←hn] at h';exact h'
def leL (tab:Tab) (inf:Inf) (x y:Num) (st:S) (C:Bool):Bool:=askS tab inf (nsub y x).p st fun l=>l.all (fun q=>!Nat.beq q.1 2)&&C
theorem leL_ok {E:Env} {tab:Tab} {inf:Inf} (hT:TabOk E tab) (hI:InfOk E inf) {x y:Num} {st:S} {C:Bool} (h:leL tab inf x y st C=true):C=true∧(Sat E st.G→x.ev E.V≤y.ev E.V):=by
 obtain ⟨l,hl,hh⟩:=askS_ok hT hI h
 rw [Bool.and_eq_true] at hl
 refine ⟨hl.2,fun hs=>?_⟩
 obtain ⟨q,hq,h1,h2,h3,h4,h5⟩:=hh hs
 have hc:=cmp_ok h4 h5
 have hn:=not_all hl.1 hq
 have: ¬y.ev E.V<x.ev E.V:=fun hlt=>by
  unfold cmpR at hc
  rw [if_pos hlt] at hc
  rcases h4 with h4 | h4 | h4
  ·rw [h4] at hc;exact absurd hc (by decide)
  ·rw [h4] at hc;exact absurd hc (by decide)
  ·rw [h4] at hn;simp at hn
 grind
end Go.Proofs.YteiibidmicgjoaaGreatDoor
namespace Go.Proofs.YteiibidmicgjoaaGreatDoor
open Go.RowKit
set_option linter.unusedVariables false
set_option linter.unusedSimpArgs false
set_option maxRecDepth 100000
structure PairI where
 f:Nat
 g:Nat
 J:Nat
 shp:List Nat
 le:List (Nat×Nat)
 jf:List Nat
 jg:List Nat
def cellsF (u:Nat→Rat):Nat→List Nat→List C
 | _,[]=> []
 | i,j::js=> .q (u i) j 0:: .q (u i) j 1:: .q (u i) j 2::cellsF u (i+1) js
def bndS:List Nat→List (Num×Nat)→Bool
 | [],[]=>true
 | j::js,p::r=>Nat.ble p.2 j&&bndS js r
 | _,_=>false
def pureO (o:CO):Bool:=o.nb.isNone&&o.ro.isEmpty&&o.rw.isEmpty
def numsO:KA→Option (List (Num×Nat))
 | .agg cs=>numsC cs
 | _=>none
def eqB (inf:Inf):List (Num×Nat)→List (Num×Nat)→S→Bool
 | [],[],_=>true
 | x::l,y::m,st=>askZ [] inf (nsub x.1 y.1).p st fun r=>r.all fun z=>z.1&&eqB inf l m z.2
 | _,_,_=>false
noncomputable def pair2 (ex:List (Nat×Leaf)) (inf:Inf) (p:PairI) (gs:List KA) (n1:List (Num×Nat)) (G:List Fact):Bool:=callF Tryz.prog (cfg [] [] inf 0 0 [] [] ex) 30 p.g gs ⟨.nil,[],0,G⟩ fun l=>l.all fun o=>pureO o.1&&(match numsO o.1.r with
 | some n2=>bndS p.jg n2&&eqB inf n1 n2 o.2
 | none=>false)
noncomputable def pair1 (ex:List (Nat×Leaf)) (inf:Inf) (p:PairI) (gs:List KA):Bool:=callF Tryz.prog (cfg [] [] inf 0 0 [] [] ex) 30 p.f gs st0 fun l=>l.all fun o=>pureO o.1&&(match numsO o.1.r with
 | some n1=>bndS p.jf n1&&pair2 ex inf p gs n1 o.2.G
 | none=>false)
noncomputable def pairB (ex:List (Nat×Leaf)) (inf:Inf) (p:PairI):Bool:=pair1 ex inf p (genA p.J 0 p.shp)
def envX (xs:List Rat):Env:=⟨fun v=>xs.getD (v/8) 0,fun _=> [],fun _ h=>posL [] h,fun _=>0,fun _ _ _=>0⟩
def PairR (p:PairI) (xs:List Rat) (u:Nat→Rat):Prop:=
 Ctr Tryz.prog Amb p.f ((genA p.J 0 p.shp).map (aK (envX xs))) (.agg (cellsF u 0 p.jf))∧Ctr Tryz.prog Amb p.g ((genA p.J 0 p.shp).map (aK (envX xs))) (.agg (cellsF u 0 p.jg))
theorem cells_ok {E:Env} {u:Nat→Rat} : ∀ {cs:List K} {ns:List (Num×Nat)} {js:List Nat} {i:Nat},numsC cs=some ns→bndS js ns=true→(∀t x,ns[t]?=some x→u (i+t)=x.1.ev E.V)→EntL (cs.map (cK E)) (cellsF u i js)
 | [],ns,js,i,h,hb,_=>by
   cases h
   cases js with
   | nil=>exact .nil
   | cons j js=>cases hb
 | [_],_,_,_,h,_,_=>by cases h
 | [_,_],_,_,_,h,_,_=>by cases h
 | a::b::c::r,ns,js,i,h,hb,hV=>by
   unfold numsC at h
   split at h
   ·rename_i x l hx hl
    cases h
    obtain ⟨n,j⟩:=x
    cases js with
    | nil=>cases hb
    | cons k js=>
      replace hb:(Nat.ble j k&&bndS js l)=true:=hb
      rw [Bool.and_eq_true] at hb
      obtain ⟨e1,e2,e3⟩:=numOf_cells (E:=E) hx (Nat.le_of_ble_eq_true hb.1)
      have hv:=hV 0 _ rfl
      rw [Nat.add_zero] at hv
      show EntL (cK E a::cK E b::cK E c::r.map (cK E)) (.q (u i) k 0:: .q (u i) k 1:: .q (u i) k 2::cellsF u (i+1) js)
      rw [hv]
      exact .cons e1 (.cons e2 (.cons e3 (cells_ok hl hb.2 fun t x ht=>by
       rw [show i+1+t=i+(t+1) by omega]
       exact hV (t+1) x (by simpa using ht))))
   ·cases h
theorem eqB_ok {E:Env} {inf:Inf} (hI:InfOk E inf): ∀ {l m:List (Num×Nat)} {st:S},eqB inf l m st=true→Sat E st.G→ ∀(t:Nat) (x y:Num×Nat),l[t]?=some x→m[t]?=some y→x.1.ev E.V=y.1.ev E.V
 | [],[],_,_,_,t,x,y,h,_=>by simp at h
 | [],_::_,_,h,_,_,_,_,_,_=>by cases h
 | _::_,[],_,h,_,_,_,_,_,_=>by cases h
 | a::l,b::m,st,h,hs,t,x,y,hx,hy=>by
   replace h:(askZ [] inf (nsub a.1 b.1).p st fun r=>r.all fun z=>z.1&&eqB inf l m z.2)=true:=h
   obtain ⟨r,hr,hh⟩:=askZ_ok (fun x hx=>by cases hx) hI h
   obtain ⟨q,hq,h1,h2,h3,h4⟩:=hh hs
   have:=not_all hr hq
   rw [Bool.and_eq_true] at this
   match t with
   | 0=>
     simp at hx hy
     subst hx hy
     have h5:=this.1
     rw [h4,ev_zero,nsub_ev] at h5
     have h6:=of_decide_eq_true h5
     grind
   | t+1=>exact eqB_ok hI this.2 h1 t x y (by simpa using hx) (by simpa using hy)
theorem runsS_ok {E:Env} {tab:Tab} {nf:List Nat} {inf:Inf} {n m:Nat} {v:List Bool} {aw:List Nat} {ex:List (Nat×Leaf)} (hT:TabAll E tab) (hI:InfOk E inf) (hD:DiceEnv E n) (hM:IntEnv E m) (hv:LightEnv E v) (ha:AwOk aw) (hx: ∀p∈ex,LfOk Tryz.prog Amb E p.1 p.2) {f:Nat} {args:List KA} {st:S} {C:List (CO×S)→Bool} (h:callF Tryz.prog (cfg tab nf inf n m v aw ex) 30 f args st C=true):
  ∃l,C l=true∧(Sat E st.G→ ∃q∈l,Sat E q.2.G∧CallOk Tryz.prog Amb E f args st q.1):=by
 obtain ⟨l,h1,h2⟩:=callF_ok (P:=Tryz.prog) (A:=Amb) (E:=E) (cf:=cfg tab nf inf n m v aw ex) mixed funs_ok tys_ok (fun {f lf} hlf=>lfAt_ok (fun p hp=>by
  rcases List.mem_append.1 hp with hp | hp
  ·exact hx p hp
  ·exact lvs_ok hT.inv hI hD hM hv ha p hp) hlf) (fun f=>by
  show NmOk E (match nf.any (Nat.beq f) with | true=>defs tab | false=> [])
  cases nf.any (Nat.beq f) with
  | true=>exact hT.defn
  | false=>exact fun x hx=>by cases hx) 30 f args st C h
 refine ⟨l,h1,fun hs=>?_⟩
 obtain ⟨q,hq,k1,_,_,hco⟩:=h2 hs
 exact ⟨q,hq,k1,hco⟩
theorem pureO_ok {E:Env} {f:Nat} {args:List KA} {st:S} {o:CO} (hp:pureO o=true) (hc:CallOk Tryz.prog Amb E f args st o):Ctr Tryz.prog Amb f (args.map (aK E)) (aK E o.r):=by
 unfold pureO at hp
 simp only [Bool.and_eq_true,List.isEmpty_iff] at hp
 obtain ⟨⟨e2,e3⟩,e4⟩:=hp
 have hm:=hc.m (isNone_ok e2)
 rw [e3,e4] at hm
 exact hm
theorem numsO_ok {E:Env} {u:Nat→Rat} {a:KA} {ns:List (Num×Nat)} {js:List Nat} (h:numsO a=some ns) (hb:bndS js ns=true) (hV: ∀t x,ns[t]?=some x→u t=x.1.ev E.V):Ent (aK E a) (.agg (cellsF u 0 js)):=by
 unfold numsO at h
 split at h
 ·rename_i cs
  exact Ent.agg (cells_ok (E:=E) (cs:=cs) h hb fun t x ht=>by rw [Nat.zero_add];exact hV t x ht)
 ·cases h
theorem eqB_len: ∀ {inf:Inf} {l m:List (Num×Nat)} {st:S} {E:Env},InfOk E inf→Sat E st.G→eqB inf l m st=true→l.length=m.length
 | _,[],[],_,_,_,_,_=>rfl
 | _,[],_::_,_,_,_,_,h=>by cases h
 | _,_::_,[],_,_,_,_,h=>by cases h
 | inf,a::l,b::m,st,E,hI,hs,h=>by
   replace h:(askZ [] inf (nsub a.1 b.1).p st fun r=>r.all fun z=>z.1&&eqB inf l m z.2)=true:=h
   obtain ⟨r,hr,hh⟩:=askZ_ok (fun x hx=>by cases hx) hI h
   obtain ⟨q,hq,h1,h2,h3,h4⟩:=hh hs
   have:=not_all hr hq
   rw [Bool.and_eq_true] at this
   simp [eqB_len hI h1 this.2]
def LeX (p:PairI) (xs:List Rat):Prop:= ∀q∈p.le,xs.getD q.1 0≤xs.getD q.2 0
def leAx (l:List (Nat×Nat)):List Poly:=l.map fun q=> [([8*q.2],1),([8*q.1],-1)]
theorem leAx_ok {p:PairI} {xs:List Rat} (h:LeX p xs): ∀q∈leAx p.le,0≤evP (envX xs).V q:=fun q hq=>by
 obtain ⟨z,hz,rfl⟩:=List.mem_map.1 hq
 have h1:=h z hz
 have c1:((1:Int):Rat)=1:=rfl
 have c2:((-1:Int):Rat)= -1:=rfl
 show 0≤((1:Int):Rat)*(xs.getD (8*z.2/8) 0*1)+(((-1:Int):Rat)*(xs.getD (8*z.1/8) 0*1)+0)
 rw [c1,c2,show 8*z.2/8=z.2 by omega,show 8*z.1/8=z.1 by omega]
 grind
theorem pair_any {ex:List (Nat×Leaf)} {inf:Inf} {p:PairI} (hx:ExOk ex) (h:pairB ex inf p=true) {xs:List Rat} (hi:InfOk (envX xs) inf): ∃u,PairR p xs u:=by
 obtain ⟨E,hE⟩: ∃E,E=envX xs:=⟨_,rfl⟩
 have hD:DiceEnv E 0:=by
  rw [hE]
  exact ⟨fun a h=>absurd h (Nat.not_lt_zero a),fun a h=>rfl,fun a h ha=>absurd ha (Nat.not_lt_zero a),fun a h ha=>absurd ha (Nat.not_lt_zero a),fun a h ha=>absurd ha (Nat.not_lt_zero a)⟩
 have hM:IntEnv E 0:=⟨fun a h=>absurd h (Nat.not_lt_zero a),fun c h=>absurd h (Nat.lt_irrefl 0)⟩
 unfold PairR
 rw [←hE] at hi⊢
 unfold pairB at h
 generalize genA p.J 0 p.shp=gs at h⊢
 unfold pair1 at h
 obtain ⟨l,k1,kk⟩:=runsS_ok (E:=E) (fun x hx=>by cases hx) hi hD hM (fun a b h=>by simp at h) (fun f hf=>by cases hf) (hx E hD) h
 obtain ⟨q,hq,hs,hc⟩:=kk fun f hf=>by cases hf
 have k2:=not_all k1 hq
 rw [Bool.and_eq_true] at k2
 obtain ⟨a1,a2⟩:=k2
 have c1:=pureO_ok a1 hc
 split at a2
 ·rename_i n1 e1
  rw [Bool.and_eq_true] at a2
  obtain ⟨a2,a3⟩:=a2
  unfold pair2 at a3
  obtain ⟨l',k1',kk'⟩:=runsS_ok (E:=E) (fun x hx=>by cases hx) hi hD hM (fun a b h=>by simp at h) (fun f hf=>by cases hf) (hx E hD) a3
  obtain ⟨q',hq',hs',hc'⟩:=kk' hs
  have k2':=not_all k1' hq'
  rw [Bool.and_eq_true] at k2'
  obtain ⟨b1,b2⟩:=k2'
  have c2:=pureO_ok b1 hc'
  split at b2
  ·rename_i n2 e2
   rw [Bool.and_eq_true] at b2
   obtain ⟨b2,b3⟩:=b2
   have hl:=eqB_len hi hs' b3
   have he:=eqB_ok (E:=E) hi b3 hs'
   refine ⟨fun i=>(getN n1 i).ev E.V,CtrM.weak c1 Ents.same (numsO_ok e1 a2 fun t x ht=>by rw [getN_get ht]),CtrM.weak c2 Ents.same (numsO_ok e2 b2 fun t x ht=>?_)⟩
   have ht':t<n1.length:=by rw [hl];exact (List.getElem?_eq_some_iff.1 ht).1
   have hg:=List.getElem?_eq_getElem ht'
   rw [getN_get hg]
   exact he t _ x hg ht
  ·cases b2
 ·cases a2
noncomputable def pairF (p:PairI) (xs:List Rat):Nat→Rat:= @dite _ (∃u,PairR p xs u) (Classical.propDecidable _) (fun h=>Classical.choose h) fun _ _=>0
theorem pairF_ok {p:PairI} {xs:List Rat} (h: ∃u,PairR p xs u):PairR p xs (pairF p xs):=by
 unfold pairF
 rw [dif_pos h]
 exact Classical.choose_spec h
noncomputable def pairG (ps:List PairI) (k:Nat) (xs:List Rat):Rat:=match ps[k/8]? with
 | some p=>pairF p xs (k % 8)
 | none=>0
def appsAt (ap:Apps) (k:Nat) (ns:List Num):List Nat→Option (List (Num×Nat))
 | []=>some []
 | j::js=>match appAt ap k ns,appsAt ap (k+1) ns js with
   | some v,some l=>some ((nvar v,j)::l)
   | _,_=>none
def leAll (tab:Tab) (inf:Inf) (ns:List (Num×Nat)) (st:S):List (Nat×Nat)→Bool→Bool
 | [],C=>C
 | q::r,C=>leL tab inf (getN ns q.1) (getN ns q.2) st (leAll tab inf ns st r C)
def lfPair (tab:Tab) (inf:Inf) (ap:Apps) (i:Nat) (p:PairI) (js:List Nat):Leaf:=fun args st C=>match numsA args with
 | some ns=>shpA args p.shp&&bndJ p.J ns&&(match appsAt ap (8*i) (ns.map fun x=>x.1) js with
   | some res=>leAll tab inf ns st p.le (C [(one (.agg (cellsN res)),st)])
   | none=>false)
 | none=>false
theorem leAll_ok {E:Env} {tab:Tab} {inf:Inf} (hT:TabOk E tab) (hI:InfOk E inf) {ns:List (Num×Nat)} {st:S} : ∀ {l:List (Nat×Nat)} {C:Bool},leAll tab inf ns st l C=true→C=true∧(Sat E st.G→ ∀q∈l,(getN ns q.1).ev E.V≤(getN ns q.2).ev E.V)
 | [],C,h=>⟨h,fun _ q hq=>by cases hq⟩
 | q::r,C,h=>by
   obtain ⟨h1,h2⟩:=leL_ok hT hI h
   obtain ⟨h3,h4⟩:=leAll_ok hT hI h1
   refine ⟨h3,fun hs z hz=>?_⟩
   rcases List.mem_cons.1 hz with rfl | hz
   ·exact h2 hs
   ·exact h4 hs z hz
theorem genC_mem {J:Nat} : ∀ {k i:Nat} {c:K},c∈genC J i k→ ∃t s,c= .q (nvar (8*t)) J s
 | 0,_,_,h=>by cases h
 | k+1,i,c,h=>by
   unfold genC at h
   rcases List.mem_cons.1 h with e | h
   ·exact ⟨i,0,e⟩
   ·rcases List.mem_cons.1 h with e | h
    ·exact ⟨i,1,e⟩
    ·rcases List.mem_cons.1 h with e | h
     ·exact ⟨i,2,e⟩
     ·exact genC_mem (k:=k) h
theorem genA_mem {J:Nat} : ∀ {shp:List Nat} {i:Nat} {a:KA},a∈genA J i shp→ ∃cs,a= .agg cs∧ ∀c∈cs,∃t s,c= .q (nvar (8*t)) J s
 | [],_,_,h=>by cases h
 | k::r,i,a,h=>by
   unfold genA at h
   rcases List.mem_cons.1 h with e | h
   ·exact ⟨_,e,fun c hc=>genC_mem hc⟩
   ·exact genA_mem (shp:=r) h
theorem genA_V {E E':Env} {J:Nat} (hV: ∀i,E.V (8*i)=E'.V (8*i)) (shp:List Nat) (i:Nat):(genA J i shp).map (aK E)=(genA J i shp).map (aK E'):=
 List.map_congr_left fun a ha=>by
  obtain ⟨cs,rfl,hc⟩:=genA_mem ha
  show AV.agg (cs.map (cK E))=AV.agg (cs.map (cK E'))
  rw [List.map_congr_left fun c h=>?_]
  obtain ⟨t,s,rfl⟩:=hc c h
  show C.q ((nvar (8*t)).ev E.V) J s=C.q ((nvar (8*t)).ev E'.V) J s
  rw [nvar_ev,nvar_ev,hV]
theorem getD_ns {E:Env} : ∀ {ns:List (Num×Nat)} {t:Nat},(ns.map fun x=>x.1.ev E.V).getD t 0=(getN ns t).ev E.V
 | [],t=>by
   show (0:Rat)=Num.ev E.V ⟨[],0⟩
   show (0:Rat)=(0:Rat)/((0+1:Nat):Rat)
   have:((0+1:Nat):Rat)=1:=rfl
   rw [this];grind
 | x::r,0=>rfl
 | x::r,t+1=>getD_ns (ns:=r)
theorem appsAt_ok {E:Env} {gf:Nat→List Rat→Rat} {ap:Apps} (hA:AppAll gf E ap) {ns:List Num} {u:Nat→Rat} : ∀ {js:List Nat} {k i:Nat} {res:List (Num×Nat)},(∀t,t<js.length→gf (k+t) (ns.map fun n=>n.ev E.V)=u (i+t))→appsAt ap k ns js=some res→(cellsN res).map (cK E)=cellsF u i js
 | [],_,_,res,_,h=>by cases h;rfl
 | j::js,k,i,res,hu,h=>by
   unfold appsAt at h
   split at h
   ·rename_i v l h1 h2
    cases h
    have e:=appAt_ok hA h1
    have e0:=hu 0 (by simp)
    rw [Nat.add_zero,Nat.add_zero] at e0
    rw [e0] at e
    have q: ∀s,cK E (.q (nvar v) j s)= .q (u i) j s:=fun s=>by
     show C.q ((nvar v).ev E.V) j s=_
     rw [nvar_ev,e]
    show cK E (.q (nvar v) j 0)::cK E (.q (nvar v) j 1)::cK E (.q (nvar v) j 2)::(cellsN l).map (cK E)=_
    rw [q 0,q 1,q 2,appsAt_ok hA (i:=i+1) (fun t ht=>by
     have:=hu (t+1) (by simp;omega)
     rw [show k+1+t=k+(t+1) by omega,show i+1+t=i+(t+1) by omega]
     exact this) h2]
    rfl
   ·cases h
theorem lfPair_ok {E:Env} {ps:List PairI} {tab:Tab} {inf:Inf} {ap:Apps} {i:Nat} {p:PairI} (hT:TabOk E tab) (hI:InfOk E inf) (hA:AppAll (pairG ps) E ap) (hp:ps[i]?=some p) (h8:p.jf.length≤8) (hn:p.jg.length=p.jf.length) (hP: ∀xs,LeX p xs→ ∃u,PairR p xs u) (hF:Fun Tryz.prog p.f) (hG:Fun Tryz.prog p.g):
  LfOk Tryz.prog Amb E p.f (lfPair tab inf ap i p p.jf)∧LfOk Tryz.prog Amb E p.g (lfPair tab inf ap i p p.jg):=by
 have key: ∀(args:List KA) (st:S) (C:List (CO×S)→Bool) (js:List Nat),js.length=p.jf.length→lfPair tab inf ap i p js args st C=true→ ∃r,C [(one r,st)]=true∧(Sat E st.G→ ∃u,(Ents (args.map (aK E)) ((genA p.J 0 p.shp).map (aK (envX (((numsA args).getD []).map fun x=>x.1.ev E.V)))))∧PairR p (((numsA args).getD []).map fun x=>x.1.ev E.V) u∧aK E r= .agg (cellsF u 0 js)):=fun args st C js hjs hC=>by
  unfold lfPair at hC
  split at hC
  ·rename_i ns hns
   simp only [Bool.and_eq_true] at hC
   obtain ⟨⟨h1,h2⟩,h3⟩:=hC
   split at h3
   ·rename_i res hres
    obtain ⟨h4,h5⟩:=leAll_ok hT hI h3
    refine ⟨_,h4,fun hs=>?_⟩
    have h6:=h5 hs
    rw [hns]
    show ∃u,Ents (args.map (aK E)) ((genA p.J 0 p.shp).map (aK (envX (ns.map fun x=>x.1.ev E.V))))∧PairR p (ns.map fun x=>x.1.ev E.V) u∧_
    obtain ⟨xs,hxs⟩: ∃xs,xs=ns.map fun x=>x.1.ev E.V:=⟨_,rfl⟩
    rw [←hxs]
    have hle:LeX p xs:=fun q hq=>by
     rw [hxs,getD_ns,getD_ns]
     exact h6 q hq
    refine ⟨pairF p xs,?_,pairF_ok (hP xs hle),?_⟩
    ·have:=ents_gen (E:=E) (J:=p.J) (V':=(envX xs).V) (i:=0) hns h1 h2 fun t x ht=>by
      show xs.getD (8*(0+t)/8) 0=_
      rw [show 8*(0+t)/8=t by omega,hxs,getD_ns,getN_get ht]
     rw [genA_V (E:= { E with V:=(envX xs).V }) (E':=envX xs) (fun i=>rfl)] at this
     exact this
    ·show AV.agg ((cellsN res).map (cK E))=_
     rw [appsAt_ok hA (u:=pairF p xs) (i:=0) (fun t ht=>?_) hres]
     rw [List.map_map]
     show pairG ps (8*i+t) (ns.map fun x=>x.1.ev E.V)=_
     rw [←hxs,Nat.zero_add]
     unfold pairG
     rw [show (8*i+t)/8=i by omega,hp,show (8*i+t) % 8=t by omega]
   ·cases h3
  ·cases hC
 constructor
 ·intro args st C hC
  obtain ⟨r,h1,h2⟩:=key args st C p.jf rfl hC
  refine ⟨_,h1,fun hs=>⟨_,List.mem_singleton.2 rfl,hs,rfl,rfl,callOk_one hF ?_⟩⟩
  obtain ⟨u,e1,e2,e3⟩:=h2 hs
  rw [e3]
  exact CtrM.weak e2.1 e1 Ent.same
 ·intro args st C hC
  obtain ⟨r,h1,h2⟩:=key args st C p.jg hn hC
  refine ⟨_,h1,fun hs=>⟨_,List.mem_singleton.2 rfl,hs,rfl,rfl,callOk_one hG ?_⟩⟩
  obtain ⟨u,e1,e2,e3⟩:=h2 hs
  rw [e3]
  exact CtrM.weak e2.2 e1 Ent.same
end Go.Proofs.YteiibidmicgjoaaGreatDoor
