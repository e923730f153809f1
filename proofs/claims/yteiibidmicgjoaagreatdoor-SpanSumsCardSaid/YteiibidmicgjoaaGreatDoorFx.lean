/-
  Several texts in one: Fh, Fi.
-/
import Derived.Test.YteiibidmicgjoaaGreatDoorFw
namespace Go.Proofs.YteiibidmicgjoaaGreatDoor
open Go.RowKit
set_option linter.unusedVariables false
set_option linter.unusedSimpArgs false
theorem trimT_get (mask:Nat) (a:T): ∀(n:Nat) (r:T) (t:Nat),(trimT mask a n r).get t=r.get t∨(Nat.testBit mask t=true∧t<n∧(trimT mask a n r).get t=a.get t)
 | 0,r,t=> .inl rfl
 | n+1,r,t=>by
   unfold trimT
   split
   ·rename_i hb
    split
    ·rename_i x hx
     obtain ⟨r',h1,h2⟩:=T.set_spec 20 r n x
     rw [h1]
     rcases trimT_get mask a n r' t with h | h
     ·rw [h,h2]
      by_cases ht:t=n
      ·subst ht
       rw [if_pos rfl]
       exact .inr ⟨hb,Nat.lt_succ_self _,hx.symm⟩
      ·rw [if_neg ht];exact .inl rfl
     ·exact .inr ⟨h.1,Nat.lt_succ_of_lt h.2.1,h.2.2⟩
    ·rcases trimT_get mask a n r t with h | h
     ·exact .inl h
     ·exact .inr ⟨h.1,Nat.lt_succ_of_lt h.2.1,h.2.2⟩
   ·rcases trimT_get mask a n r t with h | h
    ·exact .inl h
    ·exact .inr ⟨h.1,Nat.lt_succ_of_lt h.2.1,h.2.2⟩
theorem slotsEq_ok {mask:Nat} {a b:T} : ∀ {n:Nat},slotsEq mask a b n=true→ ∀t,t<n→Nat.testBit mask t=true→a.get t=b.get t
 | 0,_,t,h,_=>absurd h (Nat.not_lt_zero _)
 | n+1,hs,t,h,hb=>by
   unfold slotsEq at hs
   rw [Bool.and_eq_true] at hs
   by_cases ht:t=n
   ·subst ht
    have h1:=hs.1
    rw [hb] at h1
    simp only at h1
    split at h1
    ·rename_i x y hx hy
     rw [hx,hy,kaeq_ok h1]
    ·rename_i hx hy
     rw [hx,hy]
    ·cases h1
   ·exact slotsEq_ok hs.2 t (by omega) hb
theorem trim_le {E:Env} {mask n:Nat} {a b:T} (h:slotsEq mask a b n=true) (t:Nat) {v:AV} (hv:Le v (slK E b t)):Le v (slK E (trimT mask a n .nil) t):=by
 rcases trimT_get mask a n .nil t with h1 | ⟨h1,h2,h3⟩
 ·refine .inr ?_
  unfold slK
  rw [h1,T.get_nil]
 ·have:slK E (trimT mask a n .nil) t=slK E b t:=by
   unfold slK
   rw [h3,slotsEq_ok h t h2 h1]
  rw [this];exact hv
theorem trim_self {E:Env} {mask n:Nat} {a:T} (t:Nat) {v:AV} (hv:Le v (slK E a t)):Le v (slK E (trimT mask a n .nil) t):=by
 rcases trimT_get mask a n .nil t with h1 | ⟨h1,h2,h3⟩
 ·refine .inr ?_
  unfold slK
  rw [h1,T.get_nil]
 ·have:slK E (trimT mask a n .nil) t=slK E a t:=by
   unfold slK
   rw [h3]
  rw [this];exact hv
theorem factEq_ok {a b:Fact} (h:factEq a b=true):a=b:=by
 unfold factEq at h
 split at h
 ·simp only [Bool.and_eq_true,Nat.beq_eq] at h
  rw [h.1,peq_ok h.2]
 ·simp only [Bool.and_eq_true,Nat.beq_eq] at h
  rw [h.1.1.1,h.1.1.2,h.1.2,h.2]
 ·cases h
theorem factsEq_ok: ∀ {l m:List Fact},factsEq l m=true→l=m
 | [],[],_=>rfl
 | [],_::_,h=>by cases h
 | _::_,[],h=>by cases h
 | a::l,b::m,h=>by
   unfold factsEq at h
   rw [Bool.and_eq_true] at h
   rw [factEq_ok h.1,factsEq_ok h.2]
theorem Sat.cons {E:Env} {f:Fact} {G:List Fact} :Sat E (f::G)↔f.ok E∧Sat E G:=
 ⟨fun h=>⟨h f List.mem_cons_self,fun g hg=>h g (List.mem_cons_of_mem _ hg)⟩,fun h g hg=>by
  rcases List.mem_cons.1 hg with rfl | hg
  ·exact h.1
  ·exact h.2 g hg⟩
theorem sg_ne {x:Rat} {s:Nat} (h:sgOk x s) (hs:s=1∨s=2):sgOk x 3:=by
 rcases hs with rfl | rfl
 ·intro e
  have h:0<x:=h
  rw [e] at h
  exact absurd h (Rat.lt_irrefl)
 ·intro e
  have h:x<0:=h
  rw [e] at h
  exact absurd h (Rat.lt_irrefl)
theorem joinSg_ok {x:Rat} {s t:Nat} {u:Option Nat} (h:joinSg s t=some u) (k:sgOk x s∨sgOk x t): ∀v,u=some v→sgOk x v:=by
 intro v hv
 subst hv
 unfold joinSg at h
 split at h<;>cases h<;>rcases k with k | k<;>first | exact sg_ne k (.inl rfl) | exact sg_ne k (.inr rfl) | exact k
theorem joinF_ok {E:Env} : ∀ {F G H:List Fact},joinF F G=some H→(Sat E F→Sat E H)∧(Sat E G→Sat E H)
 | [],_,_,h=>by cases h
 | _::_,[],_,h=>by cases h
 | f::r,g::r',H,h=>by
   unfold joinF at h
   split at h
   ·rename_i hf
    have hf:=factEq_ok hf
    subst hf
    split at h
    ·rename_i h2 hh
     cases h
     obtain ⟨k1,k2⟩:=joinF_ok (E:=E) hh
     exact ⟨fun h=>Sat.cons.2 ⟨(Sat.cons.1 h).1,k1 (Sat.cons.1 h).2⟩,fun h=>Sat.cons.2 ⟨(Sat.cons.1 h).1,k2 (Sat.cons.1 h).2⟩⟩
    ·cases h
   ·split at h
    ·rename_i hfe _ _ p s q t
     split at h
     ·rename_i u hu
      split at h
      ·rename_i hc
       rw [Bool.and_eq_true] at hc
       have hp:=peq_ok hc.1
       have hr:=factsEq_ok hc.2
       subst hp
       subst hr
       cases h
       cases u with
       | none=>exact ⟨fun h=>(Sat.cons.1 h).2,fun h=>(Sat.cons.1 h).2⟩
       | some v=>exact ⟨fun h=>Sat.cons.2 ⟨joinSg_ok (x:=evP E.V _) hu (.inl (Sat.cons.1 h).1) v rfl,(Sat.cons.1 h).2⟩,fun h=>Sat.cons.2 ⟨joinSg_ok (x:=evP E.V _) hu (.inr (Sat.cons.1 h).1) v rfl,(Sat.cons.1 h).2⟩⟩
      ·cases h
     ·cases h
    ·cases h
section
variable {E:Env} {α:Type} {eq:α→α→Bool} {n mask:Nat}
def Cov (E:Env) (p q:α×S):Prop:=(Sat E p.2.G→Sat E q.2.G)∧q.1=p.1∧ ∀σ,WSt E σ p.2→WSt E σ q.2
theorem Cov.refl (p:α×S):Cov E p p:=⟨id,rfl,fun _ h=>h⟩
theorem Cov.trans {p q r:α×S} (h:Cov E p q) (k:Cov E q r):Cov E p r:=⟨fun x=>k.1 (h.1 x),k.2.1.trans h.2.1,fun σ x=>k.2.2 σ (h.2.2 σ x)⟩
theorem sameO_ok (heq: ∀a b,eq a b=true→a=b) {a:α} {st:S} {o:α×S} (h:sameO eq n mask a st o=true) {nx:Nat} {G:List Fact} :o.1=a∧ ∀σ,WSt E σ o.2→WSt E σ ⟨trimT mask st.sl n .nil,st.mem,nx,G⟩:=by
 unfold sameO at h
 simp only [Bool.and_eq_true] at h
 have hm:=memEq_ok h.2
 exact ⟨(heq _ _ h.1.1).symm,fun σ hσ=>⟨fun t=>trim_le h.1.2 t (hσ.1 t),by show mK E st.mem=_;rw [hm];exact hσ.2.1,by show zK st.mem=_;rw [hm];exact hσ.2.2⟩⟩
theorem trim_ok {st:S} {nx:Nat} {G:List Fact} (σ:St) (hσ:WSt E σ st):WSt E σ ⟨trimT mask st.sl n .nil,st.mem,nx,G⟩:=⟨fun t=>trim_self t (hσ.1 t),hσ.2⟩
theorem join2_ok (heq: ∀a b,eq a b=true→a=b) {x y z:α×S} (h:join2 eq n mask x y=some z):Cov E x z∧Cov E y z:=by
 unfold join2 at h
 split at h
 ·rename_i G hG
  split at h
  ·rename_i hs
   cases h
   obtain ⟨h1,h2⟩:=joinF_ok (E:=E) hG
   obtain ⟨h3,h4⟩:=sameO_ok (E:=E) heq hs (nx:=Nat.max x.2.nx y.2.nx) (G:=G)
   exact ⟨⟨h1,rfl,fun σ hσ=>trim_ok σ hσ⟩,⟨h2,h3.symm,h4⟩⟩
  ·cases h
 ·cases h
theorem findZ_ok (heq: ∀a b,eq a b=true→a=b): ∀ {l:List (α×S)} {x z:α×S} {r:List (α×S)},findZ eq n mask x l=some (z,r)→Cov E x z∧ ∀p∈l,p∈r∨Cov E p z
 | [],x,z,r,h=>by cases h
 | y::l,x,z,r,h=>by
   unfold findZ at h
   split at h
   ·rename_i z' hz
    cases h
    obtain ⟨h1,h2⟩:=join2_ok (E:=E) heq hz
    exact ⟨h1,fun p hp=>by
     rcases List.mem_cons.1 hp with rfl | hp
     ·exact .inr h2
     ·exact .inl hp⟩
   ·split at h
    ·rename_i z' r' hf
     cases h
     obtain ⟨h1,h2⟩:=findZ_ok heq hf
     exact ⟨h1,fun p hp=>by
      rcases List.mem_cons.1 hp with rfl | hp
      ·exact .inl List.mem_cons_self
      ·rcases h2 p hp with h | h
       ·exact .inl (List.mem_cons_of_mem _ h)
       ·exact .inr h⟩
    ·cases h
theorem joinZ_ok (heq: ∀a b,eq a b=true→a=b): ∀(k:Nat) (l:List (α×S)) (x:α×S),∀p∈x::l,∃q∈joinZ eq n mask k x l,Cov E p q
 | 0,l,x,p,hp=>⟨p,hp,Cov.refl p⟩
 | k+1,l,x,p,hp=>by
   unfold joinZ
   split
   ·rename_i z r hz
    obtain ⟨h1,h2⟩:=findZ_ok (E:=E) heq hz
    have ih:=joinZ_ok heq k r z
    rcases List.mem_cons.1 hp with rfl | hp
    ·obtain ⟨q,hq,hh⟩:=ih z List.mem_cons_self
     exact ⟨q,hq,h1.trans hh⟩
    ·rcases h2 p hp with h | h
     ·exact ih p (List.mem_cons_of_mem _ h)
     ·obtain ⟨q,hq,hh⟩:=ih z List.mem_cons_self
      exact ⟨q,hq,h.trans hh⟩
   ·exact ⟨p,hp,Cov.refl p⟩
theorem joinL_ok (heq: ∀a b,eq a b=true→a=b): ∀(l:List (α×S)),∀p∈l,∃q∈joinL eq n mask l,Cov E p q
 | x::r,p,hp=>by
   show ∃q∈joinZ eq n mask 1000 x (joinL eq n mask r),Cov E p q
   rcases List.mem_cons.1 hp with rfl | hp
   ·exact joinZ_ok heq _ _ p p List.mem_cons_self
   ·obtain ⟨q,hq,hh⟩:=joinL_ok heq r p hp
    obtain ⟨q',hq',hh'⟩:=joinZ_ok (E:=E) heq 1000 (joinL eq n mask r) x q (List.mem_cons_of_mem _ hq)
    exact ⟨q',hq',hh.trans hh'⟩
theorem collapse_ok (heq: ∀a b,eq a b=true→a=b) {G:List Fact} {outs:List (α×S)} {C:List (α×S)→Bool} (h:collapse eq n mask G outs C=true):
  ∃l,C l=true∧(Sat E G→ ∀p∈outs,∃q∈l,Cov E p q):=by
 unfold collapse at h
 split at h
 ·rename_i x y r
  unfold collapse2 at h
  rw [natK_eq] at h
  have key:=joinL_ok (E:=E) (n:=n) (mask:=mask) heq (x::y::r)
  split at h
  ·rename_i x' y' r' hl
   rw [hl] at key
   split at h
   ·rename_i hs
    refine ⟨_,h,fun hG p hp=>?_⟩
    obtain ⟨q,hq,hh⟩:=key p hp
    refine ⟨_,List.mem_singleton.2 rfl,?_⟩
    rcases List.mem_cons.1 hq with rfl | hq
    ·exact ⟨fun _=>hG,hh.2.1,fun σ hσ=>trim_ok σ (hh.2.2 σ hσ)⟩
    ·have h1:=List.all_eq_true.1 hs q hq
     obtain ⟨h3,h4⟩:=sameO_ok (E:=E) heq h1 (nx:=maxNx (y'::r') x'.2.nx) (G:=G)
     exact ⟨fun _=>hG,h3.symm.trans hh.2.1,fun σ hσ=>h4 σ (hh.2.2 σ hσ)⟩
   ·exact ⟨_,h,fun _=>key⟩
  ·exact ⟨_,h,fun _=>key⟩
 ·exact ⟨_,h,fun _ p hp=>⟨p,hp,Cov.refl p⟩⟩
end
theorem optEq_ok {a b:Option Nat} (h:optEq a b=true):a=b:=by
 unfold optEq at h
 split at h
 ·rfl
 ·rw [Nat.eq_of_beq_eq_true h]
 ·cases h
theorem rngEq_ok: ∀ {l m:List Rng},rngEq l m=true→l=m
 | [],[],_=>rfl
 | [],_::_,h=>by cases h
 | _::_,[],h=>by cases h
 | p::l,q::m,h=>by
   unfold rngEq at h
   simp only [Bool.and_eq_true,Nat.beq_eq] at h
   rw [rngEq_ok h.2,show p=q from Prod.ext h.1.1.1 (Prod.ext h.1.1.2 h.1.2)]
theorem shpEq_ok: ∀(l m:List Shp),shpEq l m=true→l=m
 | [],[],_=>rfl
 | [],_::_,h=>by cases h
 | _::_,[],h=>by cases h
 | a::l,b::m,h=>by
   unfold shpEq at h
   simp only [Bool.and_eq_true] at h
   obtain ⟨r1,w1,a1⟩:=a
   obtain ⟨r2,w2,a2⟩:=b
   rw [shpEq_ok l m h.2]
   rw [show r1=r2 from rngEq_ok h.1.1.1,show w1=w2 from rngEq_ok h.1.1.2,show a1=a2 from optEq_ok h.1.2]
theorem exEq_ok (a b:Ex) (h:exEq a b=true):a=b:=by
 unfold exEq at h
 split at h
 ·rfl
 ·rfl
 ·rw [Nat.eq_of_beq_eq_true h]
 ·cases h
section
variable {P:Program} {A:World→Prop} {E:Env} {ty:TyT} {call:Caller} {n lv:Nat} {ops:List Oper} {G:List Fact}
theorem run_snoc {X:Ctx} {l:List Oper} {σ σ':St} {es:List Eff} (h:Run P X ops l σ es σ') {o:Oper} {e:Eff} (hD:Does P X ops o σ'.s σ'.sz e) (hr:rdOk σ'.m e.rd) (ha:alOk σ'.sz e.al):Run P X ops (l++ [o]) σ (es++ [e]) (σ'.app o.dst e):=by
 induction h with
 | nil=>exact .cons hD hr ha .nil
 | cons h1 h2 h3 _ ih=>exact .cons h1 h2 h3 (ih hD hr ha)
def RunR (P:Program) (A:World→Prop) (E:Env) (n:Nat) (ops:List Oper) (σ0:St) (l0:List Oper) (es:List Shp) (st:S):Prop:=
 ∃(effs:List Eff) (σ:St),es=(effs.map shpC).reverse∧WSt E σ st∧ ∀X:Ctx,A X.W0→X.n=n→Run P X ops l0 σ0 effs σ
theorem runOps_ok (hT:TyOk P ty) (hC:CallerOk P A E call): ∀ {l:List Oper} {cur:List (List Shp×S)} {C:List (List Shp×S)→Bool},dstsK n l=true→runOps ty call n lv ops G l cur C=true→
  ∃l',C l'=true∧(Sat E G→ ∀p∈cur,Sat E p.2.G→ ∃q∈l',Sat E q.2.G∧ ∀(σ0:St) (l0:List Oper),RunR P A E n ops σ0 l0 p.1 p.2→RunR P A E n ops σ0 (l0++l) q.1 q.2)
 | [],cur,C,_,h=>⟨cur,h,fun _ p hp hs=>⟨p,hp,hs,fun σ0 l0 hr=>by rw [List.append_nil];exact hr⟩⟩
 | o::l,cur,C,hd,h=>by
   unfold dstsK at hd
   rw [List.all_cons,Bool.and_eq_true] at hd
   have hn: ∀t,o.dst=some t→t<n:=fun t ht=>by
    have:=hd.1
    rw [ht] at this
    simpa using this
   have h:mapK (stepO ty call ops o) cur (fun nxt=>collapse shpEq n (usesL ops l lv) G nxt fun nxt=>runOps ty call n lv ops G l nxt C)=true:=h
   obtain ⟨l1,h1,k1⟩:=mapK_snd (stepO_ok hT hC hn) cur _ h
   obtain ⟨l2,h2,k2⟩:=collapse_ok (E:=E) shpEq_ok h1
   obtain ⟨l3,h3,k3⟩:=runOps_ok hT hC hd.2 h2
   refine ⟨l3,h3,fun hG p hp hs=>?_⟩
   obtain ⟨q,hq,hsq,hst⟩:=k1 p hp hs
   obtain ⟨r,hr',hcov⟩:=k2 hG q hq
   obtain ⟨u,hu,hsu,hrun3⟩:=k3 hG r hr' (hcov.1 hsq)
   refine ⟨u,hu,hsu,fun σ0 l0 hr=>?_⟩
   obtain ⟨effs,σ,e1,hσ,hrun⟩:=hr
   obtain ⟨e,e2,hσ2,hdo⟩:=hst σ hσ
   have:=hrun3 σ0 (l0++ [o]) ⟨effs++ [e],σ.app o.dst e,?_,hcov.2.2 _ hσ2,fun X hA hX=>?_⟩
   ·rw [List.append_assoc] at this
    exact this
   ·rw [hcov.2.1,e2,e1]
    simp
   ·obtain ⟨d1,d2,d3⟩:=hdo X hA hX
    exact run_snoc (hrun X hA hX) d1 d2 d3
def exD:Ex→Exit
 | .normal=> .normal
 | .exit i=> .exit i
 | .ret=> .ret
def CodeR (P:Program) (A:World→Prop) (E:Env) (n:Nat) (c:Code) (st:S) (e:Ex) (st':S):Prop:=
 ∀σ,WSt E σ st→ ∃σ',WSt E σ' st'∧ ∀X:Ctx,A X.W0→X.n=n→ ∀Q:Exit→St→Prop,Q (exD e) σ'→Aw P X c σ Q
theorem leave_ok (id:Nat): ∀ {l:List (Ex×S)} {p:Ex×S},p∈l→ ∃q∈leave id l,q.2=p.2∧q.1=(match p.1 with | .exit i=>if i=id then .normal else .exit i | e=>e)
 | (e,st)::r,p,hp=>by
   have key: ∃e',leave id ((e,st)::r)=(e',st)::leave id r∧e'=(match (generalizing:=false) e with | .exit i=>if i=id then .normal else .exit i | e=>e):=by
    cases e with
    | exit i=>
      refine ⟨_,rfl,?_⟩
      show (match Nat.beq i id with | true=>Ex.normal | false=>Ex.exit i)=if i=id then .normal else .exit i
      cases hb:Nat.beq i id with
      | true=>rw [if_pos (Nat.eq_of_beq_eq_true hb)]
      | false=>rw [if_neg (fun h=>by rw [h] at hb;simp at hb)]
    | normal=>exact ⟨_,rfl,rfl⟩
    | ret=>exact ⟨_,rfl,rfl⟩
   obtain ⟨e',h1,h2⟩:=key
   rw [h1]
   rcases List.mem_cons.1 hp with rfl | hp
   ·exact ⟨_,List.mem_cons_self,rfl,h2⟩
   ·obtain ⟨q,hq,hh⟩:=leave_ok id hp
    exact ⟨q,List.mem_cons_of_mem _ hq,hh⟩
theorem loopB_ok {mask:Nat} {c:Code} {body:S→Outs Ex} (hb:Snd E (fun (_:Unit) st=>body st) fun _ st e st'=>CodeR P A E n c st e st'): ∀(k:Nat),Snd E (fun (_:Unit) st=>loopB n mask body k st) fun _ st e st'=>
  ∀σ,WSt E σ st→ ∃σ',WSt E σ' st'∧ ∀X:Ctx,A X.W0→X.n=n→ ∀Q:Exit→St→Prop,Q (exD e) σ'→LoopN P X c Q k σ
 | 0=>fun _ st C h=>by cases h
 | k+1=>fun _ st C h=>by
   have h:body st (fun outs=>collapse exEq n mask st.G outs fun outs=>mapK (fun e st C=>match e with
    | .normal=>loopB n mask body k st C
    | e=>C [(e,st)]) outs C)=true:=h
   obtain ⟨l1,h1,k1⟩:=hb () st _ h
   obtain ⟨l2,h2,k2⟩:=collapse_ok (E:=E) exEq_ok h1
   have hg:Snd E (fun (e:Ex) st (C:List (Ex×S)→Bool)=>match e with | .normal=>loopB n mask body k st C | e=>C [(e,st)]) fun e st e' st'=>
     (e= .normal∧ ∀σ,WSt E σ st→ ∃σ',WSt E σ' st'∧ ∀X:Ctx,A X.W0→X.n=n→ ∀Q:Exit→St→Prop,Q (exD e') σ'→LoopN P X c Q k σ)∨(e≠ .normal∧e'=e∧st'=st):=fun e st C h=>by
    cases e with
    | normal=>
      obtain ⟨l,hl,kl⟩:=loopB_ok hb k () st C h
      exact ⟨l,hl,fun hs=>by
       obtain ⟨q,hq,hsq,hh⟩:=kl hs
       exact ⟨q,hq,hsq,.inl ⟨rfl,hh⟩⟩⟩
    | exit i=>exact ⟨_,h,fun hs=>⟨_,List.mem_singleton.2 rfl,hs,.inr ⟨(fun h=>by cases h),rfl,rfl⟩⟩⟩
    | ret=>exact ⟨_,h,fun hs=>⟨_,List.mem_singleton.2 rfl,hs,.inr ⟨(fun h=>by cases h),rfl,rfl⟩⟩⟩
   obtain ⟨l3,h3,k3⟩:=mapK_snd hg l2 C h2
   refine ⟨l3,h3,fun hs=>?_⟩
   obtain ⟨q,hq,hsq,hcode⟩:=k1 hs
   obtain ⟨r,hr,hcov⟩:=k2 hs q hq
   obtain ⟨r2,hr2,hs2,hh⟩:=k3 r hr (hcov.1 hsq)
   refine ⟨r2,hr2,hs2,fun σ hσ=>?_⟩
   obtain ⟨σ1,hσ1,haw⟩:=hcode σ hσ
   have hσr:=hcov.2.2 σ1 hσ1
   rcases hh with ⟨he,hh⟩ | ⟨he,he2,hst⟩
   ·obtain ⟨σ2,hσ2,hl⟩:=hh σ1 hσr
    refine ⟨σ2,hσ2,fun X hA hX Q hQ=>?_⟩
    refine haw X hA hX _ ?_
    rw [←hcov.2.1,he]
    exact hl X hA hX Q hQ
   ·refine ⟨σ1,by rw [hst];exact hσr,fun X hA hX Q hQ=>?_⟩
    refine haw X hA hX _ ?_
    rw [he2,hcov.2.1] at hQ
    rw [hcov.2.1] at he
    cases hq1:q.1 with
    | normal=>exact absurd hq1 he
    | exit i=>rw [hq1] at hQ;exact hQ
    | ret=>rw [hq1] at hQ;exact hQ
theorem execC_ok (hm:P.follows .mixedOrders=true) (hT:TyOk P ty) (hC:CallerOk P A E call): ∀(c:Code) (x lv:Nat),Snd E (fun (_:Unit) st=>execC ty call n c x lv st) fun _ st e st'=>CodeR P A E n c st e st'
 | .skip,x,lv=>fun _ st C h=>⟨_,h,fun hs=>⟨_,List.mem_singleton.2 rfl,hs,fun σ hσ=>⟨σ,hσ,fun X _ _ Q hQ=>aw_skip hQ⟩⟩⟩
 | .label l,x,lv=>fun _ st C h=>⟨_,h,fun hs=>⟨_,List.mem_singleton.2 rfl,hs,fun σ hσ=>⟨σ,hσ,fun X _ _ Q hQ=>aw_label hQ⟩⟩⟩
 | .exit id,x,lv=>fun _ st C h=>⟨_,h,fun hs=>⟨_,List.mem_singleton.2 rfl,hs,fun σ hσ=>⟨σ,hσ,fun X _ _ Q hQ=>aw_exit hQ⟩⟩⟩
 | .ret,x,lv=>fun _ st C h=>⟨_,h,fun hs=>⟨_,List.mem_singleton.2 rfl,hs,fun σ hσ=>⟨σ,hσ,fun X _ _ Q hQ=>aw_ret hQ⟩⟩⟩
 | .region id ops d,x,lv=>fun _ st C h=>by
   have h:(dstsK n ops.toList&&runOps ty call n lv ops.toList st.G ops.toList [([],st)] fun l=>mapK (fun es st C=>(match (generalizing:=false) d with
    | true=>dagB ops.toList&&chkS ops.toList es.reverse
    | false=>true)&&C [(.normal,st)]) l C)=true:=h
   rw [Bool.and_eq_true] at h
   obtain ⟨hd,h⟩:=h
   obtain ⟨l1,h1,k1⟩:=runOps_ok (A:=A) (E:=E) hT hC hd h
   have hg:Snd E (fun (es:List Shp) st (C:List (Ex×S)→Bool)=>(match (generalizing:=false) d with
     | true=>dagB ops.toList&&chkS ops.toList es.reverse
     | false=>true)&&C [(.normal,st)]) fun es st e st'=>e= .normal∧st'=st∧(d=true→dagB ops.toList=true∧chkS ops.toList es.reverse=true):=fun es st C h=>by
    rw [Bool.and_eq_true] at h
    refine ⟨_,h.2,fun hs=>⟨_,List.mem_singleton.2 rfl,hs,rfl,rfl,fun hd=>?_⟩⟩
    have:=h.1
    rw [hd] at this
    simp only [Bool.and_eq_true] at this
    exact this
   obtain ⟨l2,h2,k2⟩:=mapK_snd hg l1 C h1
   refine ⟨l2,h2,fun hs=>?_⟩
   obtain ⟨q,hq,hsq,hrun⟩:=k1 hs _ (List.mem_singleton.2 rfl) hs
   obtain ⟨r,hr,hsr,e1,e2,hch⟩:=k2 q hq hsq
   refine ⟨r,hr,hsr,fun σ hσ=>?_⟩
   obtain ⟨effs,σ',e3,hσ',hR⟩:=hrun σ [] ⟨[],σ,rfl,hσ,fun X _ _=> .nil⟩
   rw [List.nil_append] at hR
   have hops:ops=ops.toList.toArray:=by simp
   refine ⟨σ',by rw [e2];exact hσ',fun X hA hX Q hQ=>?_⟩
   rw [e1] at hQ
   have hd':(ops.toList.all fun o=>match o.dst with | some t=>Nat.blt t X.n | none=>true)=true:=by rw [hX];exact hd
   rw [hops]
   cases d with
   | true=>
     obtain ⟨hdag,hck⟩:=hch rfl
     rw [e3,List.reverse_reverse,chkS_ok] at hck
     exact aw_draw hm hdag hd' (hR X hA hX) hck hQ
   | false=>exact aw_plain hd' (hR X hA hX) hQ
 | .seq a b,x,lv=>fun _ st C h=>by
   have h:natK (liveC b x lv) (fun lv'=>execC ty call n a x lv' st fun outs=>collapse exEq n (Nat.lor x lv') st.G outs fun outs=>mapK (fun e st C=>match e with
    | .normal=>execC ty call n b x lv st C
    | e=>C [(e,st)]) outs C)=true:=h
   rw [natK_eq] at h
   obtain ⟨l1,h1,k1⟩:=execC_ok hm hT hC a x _ () st _ h
   obtain ⟨l2,h2,k2⟩:=collapse_ok (E:=E) exEq_ok h1
   have hg:Snd E (fun (e:Ex) st (C:List (Ex×S)→Bool)=>match e with | .normal=>execC ty call n b x lv st C | e=>C [(e,st)]) fun e st e' st'=>
     (e= .normal∧CodeR P A E n b st e' st')∨(e≠ .normal∧e'=e∧st'=st):=fun e st C h=>by
    cases e with
    | normal=>
      obtain ⟨l,hl,kl⟩:=execC_ok hm hT hC b x lv () st C h
      exact ⟨l,hl,fun hs=>by
       obtain ⟨q,hq,hsq,hh⟩:=kl hs
       exact ⟨q,hq,hsq,.inl ⟨rfl,hh⟩⟩⟩
    | exit i=>exact ⟨_,h,fun hs=>⟨_,List.mem_singleton.2 rfl,hs,.inr ⟨(fun h=>by cases h),rfl,rfl⟩⟩⟩
    | ret=>exact ⟨_,h,fun hs=>⟨_,List.mem_singleton.2 rfl,hs,.inr ⟨(fun h=>by cases h),rfl,rfl⟩⟩⟩
   obtain ⟨l3,h3,k3⟩:=mapK_snd hg l2 C h2
   refine ⟨l3,h3,fun hs=>?_⟩
   obtain ⟨q,hq,hsq,hcode⟩:=k1 hs
   obtain ⟨r,hr,hcov⟩:=k2 hs q hq
   obtain ⟨r2,hr2,hs2,hh⟩:=k3 r hr (hcov.1 hsq)
   refine ⟨r2,hr2,hs2,fun σ hσ=>?_⟩
   obtain ⟨σ1,hσ1,haw⟩:=hcode σ hσ
   have hσr:=hcov.2.2 σ1 hσ1
   rcases hh with ⟨he,hh⟩ | ⟨he,he2,hst⟩
   ·obtain ⟨σ2,hσ2,hl⟩:=hh σ1 hσr
    refine ⟨σ2,hσ2,fun X hA hX Q hQ=>aw_seq (haw X hA hX _ ?_)⟩
    rw [←hcov.2.1,he]
    exact hl X hA hX Q hQ
   ·refine ⟨σ1,by rw [hst];exact hσr,fun X hA hX Q hQ=>aw_seq (haw X hA hX _ ?_)⟩
    rw [he2,hcov.2.1] at hQ
    rw [hcov.2.1] at he
    cases hq1:q.1 with
    | normal=>exact absurd hq1 he
    | exit i=>rw [hq1] at hQ;exact hQ
    | ret=>rw [hq1] at hQ;exact hQ
 | .cond c a b,x,lv=>fun _ st C h=>by
   have h:(match evK st.sl c with
    | some (.one (.b true))=>execC ty call n a x lv st C
    | some (.one (.b false))=>execC ty call n b x lv st C
    | _=>false)=true:=h
   have hev: ∀ {y:Bool},evK st.sl c=some (.one (.b y))→ ∀ {σ:St},WSt E σ st→evC σ.s c= .one (.v (.bool y)):=fun {y} hx {σ} hσ=>by
    have h1:=evK_ok (E:=E) hx
    have h1:evC (slK E st.sl) c= .one (.v (.bool y)):=h1
    cases c with
    | tmp t=>exact (hσ.1 t).val h1
    | const v=>cases v<;>exact h1
    | global g=>exact h1
    | func f=>exact h1
   split at h
   ·rename_i hx
    obtain ⟨l,hl,kl⟩:=execC_ok hm hT hC a x lv () st C h
    refine ⟨l,hl,fun hs=>?_⟩
    obtain ⟨q,hq,hsq,hh⟩:=kl hs
    refine ⟨q,hq,hsq,fun σ hσ=>?_⟩
    obtain ⟨σ',hσ',haw⟩:=hh σ hσ
    exact ⟨σ',hσ',fun X hA hX Q hQ=>aw_condT (hev hx hσ) (haw X hA hX Q hQ)⟩
   ·rename_i hx
    obtain ⟨l,hl,kl⟩:=execC_ok hm hT hC b x lv () st C h
    refine ⟨l,hl,fun hs=>?_⟩
    obtain ⟨q,hq,hsq,hh⟩:=kl hs
    refine ⟨q,hq,hsq,fun σ hσ=>?_⟩
    obtain ⟨σ',hσ',haw⟩:=hh σ hσ
    exact ⟨σ',hσ',fun X hA hX Q hQ=>aw_condF (hev hx hσ) (haw X hA hX Q hQ)⟩
   ·cases h
 | .block id c,x,lv=>fun _ st C h=>by
   have h:execC ty call n c (Nat.lor x lv) lv st (fun outs=>collapse exEq n (Nat.lor x lv) st.G (leave id outs) C)=true:=h
   obtain ⟨l1,h1,k1⟩:=execC_ok hm hT hC c _ lv () st _ h
   obtain ⟨l2,h2,k2⟩:=collapse_ok (E:=E) exEq_ok h1
   refine ⟨l2,h2,fun hs=>?_⟩
   obtain ⟨q,hq,hsq,hcode⟩:=k1 hs
   obtain ⟨q2,hq2,e1,e2⟩:=leave_ok id hq
   obtain ⟨r,hr,hcov⟩:=k2 hs q2 hq2
   refine ⟨r,hr,hcov.1 (by rw [e1];exact hsq),fun σ hσ=>?_⟩
   obtain ⟨σ',hσ',haw⟩:=hcode σ hσ
   refine ⟨σ',hcov.2.2 σ' (by rw [e1];exact hσ'),fun X hA hX Q hQ=>aw_block (haw X hA hX _ ?_)⟩
   rw [hcov.2.1,e2] at hQ
   cases hq1:q.1 with
   | normal=>rw [hq1] at hQ;exact hQ
   | ret=>rw [hq1] at hQ;exact hQ
   | exit i=>
     rw [hq1] at hQ
     show if i=id then Q .normal σ' else Q (.exit i) σ'
     by_cases hi:i=id
     ·rw [if_pos hi];simp only [hi,if_true] at hQ;exact hQ
     ·rw [if_neg hi];simp only [if_neg hi] at hQ;exact hQ
 | .loop c,x,lv=>fun _ st C h=>by
   have h:natK (liveC c x 0) (fun lv'=>loopB n (Nat.lor x lv') (execC ty call n c x lv') 1000 st C)=true:=h
   rw [natK_eq] at h
   obtain ⟨l,hl,kl⟩:=loopB_ok (fun u st C h=>execC_ok hm hT hC c _ _ u st C h) 1000 () st C h
   refine ⟨l,hl,fun hs=>?_⟩
   obtain ⟨q,hq,hsq,hh⟩:=kl hs
   refine ⟨q,hq,hsq,fun σ hσ=>?_⟩
   obtain ⟨σ',hσ',hL⟩:=hh σ hσ
   exact ⟨σ',hσ',fun X hA hX Q hQ=>aw_loopN 1000 (hL X hA hX Q hQ)⟩
 | .rangeFunc _ _ _ _,_,_=>fun _ _ _ h=>by cases h
 | .scope _,_,_=>fun _ _ _ h=>by cases h
 | .goto _,_,_=>fun _ _ _ h=>by cases h
 | .refuse _,_,_=>fun _ _ _ h=>by cases h
end
end Go.Proofs.YteiibidmicgjoaaGreatDoor
namespace Go.Proofs.YteiibidmicgjoaaGreatDoor
open Go.RowKit
set_option linter.unusedVariables false
set_option linter.unusedSimpArgs false
def funsB (P:Program):Bool:=P.funcs.toList.all fun fn=>fn.body.isNone || !(fn.name== "runtime.NumGoroutine")
theorem funsB_ok {P:Program} (h:funsB P=true) {f:Nat} {fn:Func} {c:Code} (hf:P.funcs[f]?=some fn) (hb:fn.body=some c):Fun P f:=by
 refine ⟨?_⟩
 unfold funB
 rw [hf]
 simp only
 have:=List.all_eq_true.1 h fn (Array.mem_toList_iff.2 (Array.mem_of_getElem? hf))
 rw [hb] at this⊢
 simpa using this
theorem Ent.junk {a:AV} :Ent a .junk:=fun _ _ _ _ _ _=>trivial
theorem Le.ent {a b:AV} (h:Le a b):Ent a b:=by
 rcases h with h | h
 ·rw [h];exact Ent.same
 ·rw [h];exact Ent.junk
theorem pfK_ok (E:Env) (k:K):pfC (cK E k)=pfK k:=by cases k<;>rfl
theorem pfKs_ok {E:Env} {l:List K} (h:l.all pfK=true):(l.map (cK E)).all pfC=true:=by
 rw [List.all_map]
 exact List.all_eq_true.2 fun k hk=>(pfK_ok E k).trans (List.all_eq_true.1 h k hk)
theorem pfKA0_ok {E:Env} {a:KA} (h:pfKA0 a=true):pf0 (aK0 E a)=true:=by
 cases a with
 | one k=>exact (pfK_ok E k).trans h
 | agg l=>exact pfKs_ok h
 | tup l=>cases h
 | junk=>rfl
theorem pfKA_ok {E:Env} {a:KA} (h:pfKA a=true):pf (aK E a)=true:=by
 cases a with
 | tup l=>
   show (l.map (aK0 E)).all pf0=true
   rw [List.all_map]
   exact List.all_eq_true.2 fun k hk=>pfKA0_ok (List.all_eq_true.1 (show l.all pfKA0=true from h) k hk)
 | one k=>exact pfKA0_ok (a:= .one k) h
 | agg l=>exact pfKA0_ok (a:= .agg l) h
 | junk=>rfl
theorem inK_ok (E:Env) (ks:List Nat) (k:K):inC ks (cK E k)=inK ks k:=by cases k<;>rfl
theorem inKA_ok {E:Env} {ks:List Nat} {a:KA} (h:inKA ks a=true):inA ks (aK E a)=true:=by
 cases a with
 | one k=>exact (inK_ok E ks k).trans h
 | agg l=>
   show (l.map (cK E)).all (inC ks)=true
   rw [List.all_map]
   exact List.all_eq_true.2 fun k hk=>(inK_ok E ks k).trans (List.all_eq_true.1 (show l.all (inK ks)=true from h) k hk)
 | tup l=>cases h
 | junk=>rfl
theorem argT_get: ∀(args:List KA) (n:Nat) (t:T) (k:Nat),(argT n args t).get k=if n≤k∧k<n+args.length then args[k-n]? else t.get k
 | [],n,t,k=>by rw [if_neg (by simp only [List.length_nil];omega)];rfl
 | a::r,n,t,k=>by
   show (T.set 20 t n a fun t=>argT (n+1) r t).get k=_
   obtain ⟨t',h1,h2⟩:=T.set_spec 20 t n a
   rw [h1,argT_get r (n+1) t' k,h2]
   simp only [List.length_cons]
   by_cases hk:k=n
   ·subst hk
    rw [if_neg (by omega),if_pos rfl,if_pos (by omega),Nat.sub_self]
    rfl
   ·rw [if_neg hk]
    by_cases h3:n+1≤k∧k<n+1+r.length
    ·rw [if_pos h3,if_pos (by omega)]
     have:k-n=(k-(n+1))+1:=by omega
     rw [this,List.getElem?_cons_succ]
    ·rw [if_neg h3,if_neg (by omega)]
theorem argS_get (E:Env): ∀(args:List KA) (n k:Nat),lk AV.junk (argS n (args.map (aK E))) k=match (if n≤k∧k<n+args.length then args[k-n]? else none) with | some a=>aK E a | none=> .junk
 | [],n,k=>by rw [if_neg (by simp only [List.length_nil];omega)];rfl
 | a::r,n,k=>by
   show (match Nat.beq n k with | true=>aK E a | false=>lk AV.junk (argS (n+1) (r.map (aK E))) k)=_
   simp only [List.length_cons]
   cases hb:Nat.beq n k with
   | true=>
     have:=Nat.eq_of_beq_eq_true hb
     subst this
     rw [if_pos (by omega),Nat.sub_self]
     rfl
   | false=>
     have hne:k≠n:=fun h=>by subst h;simp at hb
     show lk AV.junk (argS (n+1) (r.map (aK E))) k=_
     rw [argS_get E r (n+1) k]
     by_cases h3:n+1≤k∧k<n+1+r.length
     ·rw [if_pos h3,if_pos (by omega)]
      have:k-n=(k-(n+1))+1:=by omega
      rw [this,List.getElem?_cons_succ]
     ·rw [if_neg h3,if_neg (by omega)]
theorem pickM_ok {m:List (Nat×List K)} : ∀ {l:List Nat} {bs:List (Nat×List K)},pickM m l=some bs→bs.map (·.1)=l∧ ∀p∈bs,memG m p.1=some p.2
 | [],bs,h=>by cases h;exact ⟨rfl,fun p hp=>by cases hp⟩
 | k::r,bs,h=>by
   unfold pickM at h
   split at h
   ·rename_i cs hcs
    split at h
    ·rename_i l hl
     cases h
     obtain ⟨h1,h2⟩:=pickM_ok hl
     exact ⟨by rw [List.map_cons,h1],fun p hp=>by
      rcases List.mem_cons.1 hp with rfl | hp
      ·exact hcs
      ·exact h2 p hp⟩
    ·cases h
   ·cases h
theorem lk_memG (E:Env): ∀(bs:List (Nat×List K)) (k:Nat),lk [] (bs.map fun p=>(p.1,p.2.map (cK E))) k=match memG bs k with | some cs=>cs.map (cK E) | none=> []
 | [],_=>rfl
 | p::r,k=>by
   show (match Nat.beq p.1 k with | true=>p.2.map (cK E) | false=>lk [] (r.map fun p=>(p.1,p.2.map (cK E))) k)=match (match Nat.beq p.1 k with | true=>some p.2 | false=>memG r k) with | some cs=>cs.map (cK E) | none=> []
   cases Nat.beq p.1 k with
   | true=>rfl
   | false=>exact lk_memG E r k
theorem start_ok (E:Env) (args:List KA) (bs:List (Nat×List K)) (nx:Nat) (G:List Fact):WSt E (stL (argS 0 (args.map (aK E))) (bs.map fun p=>(p.1,p.2.map (cK E)))) ⟨argT 0 args .nil,bs,nx,G⟩:=by
 refine ⟨fun t=> .inl ?_,?_,?_⟩
 ·show slK E (argT 0 args .nil) t=lk AV.junk (argS 0 (args.map (aK E))) t
  rw [argS_get]
  unfold slK
  rw [argT_get]
  simp only [T.get_nil]
  cases (if 0≤t∧t<0+args.length then args[t-0]? else none)<;>rfl
 ·funext k o
  show mK E bs k o=(lk [] (bs.map fun p=>(p.1,p.2.map (cK E))) k).getD o (.v (.bool false))
  rw [lk_memG]
  cases h:memG bs k with
  | none=>rw [mK_no h];rfl
  | some cs=>
    rw [mK_at h,cellAt_eq,List.getD_eq_getElem?_getD]
 ·funext k
  show zK bs k=(lk [] (bs.map fun p=>(p.1,p.2.map (cK E))) k).length
  rw [lk_memG]
  cases h:memG bs k with
  | none=>rw [zK_none h];rfl
  | some cs=>rw [zK_some h,List.length_map]
theorem splitM_ok {m:List (Nat×List K)} : ∀ {bs ro:List (Nat×List K)} {rw:List (Nat×List K×List K)},splitM m bs=some (ro,rw)→
  (∀p∈ro,p∈bs∧memG m p.1=some p.2)∧(∀p∈rw,(p.1,p.2.1)∈bs∧memG m p.1=some p.2.2)∧ ∀p∈bs,p∈ro∨ ∃a,(p.1,p.2,a)∈rw
 | [],ro,rw,h=>by cases h;exact ⟨fun p hp=>(by cases hp),fun p hp=>(by cases hp),fun p hp=>(by cases hp)⟩
 | (k,cs)::r,ro,rw,h=>by
   unfold splitM at h
   split at h
   ·rename_i cs' a b hm hr
    obtain ⟨h1,h2,h3⟩:=splitM_ok hr
    split at h
    ·rename_i he
     have he:=keqL_ok he
     subst he
     cases h
     refine ⟨fun p hp=>?_,fun p hp=>⟨List.mem_cons_of_mem _ (h2 p hp).1,(h2 p hp).2⟩,fun p hp=>?_⟩
     ·rcases List.mem_cons.1 hp with rfl | hp
      ·exact ⟨List.mem_cons_self,hm⟩
      ·exact ⟨List.mem_cons_of_mem _ (h1 p hp).1,(h1 p hp).2⟩
     ·rcases List.mem_cons.1 hp with rfl | hp
      ·exact .inl List.mem_cons_self
      ·rcases h3 p hp with h | ⟨x,h⟩
       ·exact .inl (List.mem_cons_of_mem _ h)
       ·exact .inr ⟨x,h⟩
    ·cases h
     refine ⟨fun p hp=>⟨List.mem_cons_of_mem _ (h1 p hp).1,(h1 p hp).2⟩,fun p hp=>?_,fun p hp=>?_⟩
     ·rcases List.mem_cons.1 hp with rfl | hp
      ·exact ⟨List.mem_cons_self,hm⟩
      ·exact ⟨List.mem_cons_of_mem _ (h2 p hp).1,(h2 p hp).2⟩
     ·rcases List.mem_cons.1 hp with rfl | hp
      ·exact .inr ⟨cs',List.mem_cons_self⟩
      ·rcases h3 p hp with h | ⟨x,h⟩
       ·exact .inl h
       ·exact .inr ⟨x,List.mem_cons_of_mem _ h⟩
   ·cases h
section
variable {P:Program} {A:World→Prop} {E:Env} {ty:TyT}
theorem resK_ok (hT:TyOk P ty) {st:S} {σ:St} (hσ:WSt E σ st) {r:ResultVar} {a:KA} (h:resK ty st r=some a): ∃v,ResIs P σ r v∧Le v (aK E a):=by
 cases r with
 | tmp t=>
   have h:(match st.sl.get t with | some v=>some v | none=>some KA.junk)=some a:=h
   refine ⟨σ.s t,.tmp rfl,?_⟩
   have h1:=hσ.1 t
   unfold slK at h1
   cases hg:st.sl.get t with
   | some v=>rw [hg] at h h1;cases h;exact h1
   | none=>rw [hg] at h h1;cases h;exact h1
 | cell t u=>
   have h:(match tyAt ty u,st.sl.get t with
    | some i,some (.one (.ptr k off))=>(match memG st.mem k with
      | some cs=>(match Nat.ble (off+i.size) cs.length&&Nat.blt 0 i.size&&(i.agg || Nat.beq i.size 1) with
        | true=>some (mkK i.agg (subK cs off i.size))
        | false=>none)
      | none=>none)
    | _,_=>none)=some a:=h
   split at h
   ·rename_i i k off hi hg
    split at h
    ·rename_i cs hcs
     split at h
     ·rename_i hc
      cases h
      simp only [Bool.and_eq_true] at hc
      have hle:=Nat.le_of_ble_eq_true hc.1.1
      have hs:σ.s t= .one (.ptr k off):=(hσ.1 t).val (by unfold slK;rw [hg];rfl)
      refine ⟨_,.cell (tiB_tsz (hT hi)) hs (by rw [←hσ.2.2,zK_some hcs];exact hc.1.1) hc.1.2 hc.2,.inl ?_⟩
      rw [mkK_ok,←hσ.2.1,rdL_mK hcs i.size off hle]
     ·cases h
    ·cases h
   ·cases h
theorem resKs_ok (hT:TyOk P ty) {st:S} {σ:St} (hσ:WSt E σ st): ∀ {rs:List ResultVar} {as:List KA},resKs ty st rs=some as→ ∃vs,ResAll P σ rs vs∧vs.length=as.length∧ ∀(i:Nat) v a,vs[i]?=some v→as[i]?=some a→Le v (aK E a)
 | [],as,h=>by cases h;exact ⟨[],.nil,rfl,fun i v a h=>by simp at h⟩
 | r::rs,as,h=>by
   unfold resKs at h
   split at h
   ·rename_i k hk
    split at h
    ·rename_i l hl
     cases h
     obtain ⟨v,h1,h2⟩:=resK_ok hT hσ hk
     obtain ⟨vs,h3,h4,h5⟩:=resKs_ok hT hσ hl
     refine ⟨v::vs,.cons h1 h3,by simp [h4],fun i x a hx ha=>?_⟩
     cases i with
     | zero=>simp at hx ha;subst hx;subst ha;exact h2
     | succ i=>exact h5 i x a (by simpa using hx) (by simpa using ha)
    ·cases h
   ·cases h
theorem goodK_eq {a:KA} (h:goodK a=true):aK E a=aK0 E a∧aK E a≠ .junk∧notTup (aK E a)=true:=by
 cases a with
 | one k=>exact ⟨rfl,fun h=>(by cases h),rfl⟩
 | agg l=>exact ⟨rfl,fun h=>(by cases h),rfl⟩
 | tup l=>cases h
 | junk=>cases h
theorem join_ok {vs:List AV} {as:List KA} (hl:vs.length=as.length) (h: ∀(i:Nat) v a,vs[i]?=some v→as[i]?=some a→Le v (aK E a)) (hg:(Nat.beq as.length 1 || as.all goodK)=true):
  (vs.length=1∨vs.all (fun a=>match a with | .tup _=>false | _=>true)=true)∧Ent (joinR vs) (aK E (joinK as)):=by
 by_cases h1:as.length=1
 ·refine ⟨.inl (hl.trans h1),?_⟩
  match vs,as,hl,h1,h with
  | [v],[a],_,_,h=>exact (h 0 v a rfl rfl).ent
  | [],[a],hl,_,_=>cases hl
  | _::_::_,[a],hl,_,_=>simp at hl
 ·have hg:as.all goodK=true:=by
   rw [Bool.or_eq_true] at hg
   rcases hg with hg | hg
   ·exact absurd (Nat.eq_of_beq_eq_true hg) h1
   ·exact hg
  have heq:vs=as.map (aK0 E):=by
   refine List.ext_getElem? fun i=>?_
   rw [List.getElem?_map]
   by_cases hi:i<as.length
   ·have hi2:i<vs.length:=by rw [hl];exact hi
    rw [List.getElem?_eq_getElem hi,List.getElem?_eq_getElem hi2]
    obtain ⟨e1,e2,_⟩:=goodK_eq (E:=E) (List.all_eq_true.1 hg _ (List.getElem_mem hi))
    have:=h i _ _ (List.getElem?_eq_getElem hi2) (List.getElem?_eq_getElem hi)
    rcases this with h2 | h2
    ·show some vs[i]=some (aK0 E as[i])
     rw [←e1,h2]
    ·exact absurd h2 e2
   ·rw [List.getElem?_eq_none (by omega),List.getElem?_eq_none (by omega)]
    rfl
  refine ⟨.inr ?_,?_⟩
  ·rw [heq,List.all_map]
   refine List.all_eq_true.2 fun a ha=>?_
   have hga:=List.all_eq_true.1 hg a ha
   cases a with
   | one k=>rfl
   | agg l=>rfl
   | tup l=>cases hga
   | junk=>cases hga
  ·have e1:joinK as= .tup as:=by
    unfold joinK
    split
    ·rename_i a;exact absurd rfl h1
    ·rfl
   have e2:joinR vs= .tup vs:=by
    unfold joinR
    split
    ·rename_i a;simp at hl;exact absurd hl.symm h1
    ·rfl
   rw [e1,e2,heq]
   exact Ent.same
theorem CtrM.mem {f:FuncId} {args:List AV} {bs bs':List (Nat×List C×List C)} {R:AV} (h:CtrM P A f args bs R) (hb: ∀p,p∈bs↔p∈bs'):CtrM P A f args bs' R:=by
 intro W0 w μ sz vs hA hk h1 h2 hv
 refine (h W0 w μ sz vs hA hk (fun p hp=>h1 p ((hb p).1 hp)) (fun p hp q hq=>h2 p ((hb p).1 hp) q ((hb q).1 hq)) hv).mono ?_
 rintro e w' ⟨r,rfl,hkd,hr,hbl⟩
 exact ⟨r,rfl,⟨hkd.os,hkd.tape,hkd.output,hkd.size,fun g hg hD=>hkd.block g hg fun ⟨p,hp,e⟩=>hD ⟨p,(hb p).1 hp,e⟩⟩,hr,fun p hp=>hbl p ((hb p).2 hp)⟩
def LeavesOk (P:Program) (A:World→Prop) (E:Env) (cf:Cfg):Prop:= ∀ {f:Nat} {lf:Leaf},cf.leaf f=some lf→Snd E lf fun args st co st'=>st'.sl=st.sl∧st'.mem=st.mem∧CallOk P A E f args st co
def NmOk (E:Env) (ds:List (Nat×Poly)):Prop:= ∀x∈ds,E.V x.1=evP E.V x.2
theorem defAt_ok: ∀ {ds:List (Nat×Poly)} {p:Poly} {a:Nat},defAt ds p=some a→(a,p)∈ds
 | [],_,_,h=>by cases h
 | (b,D)::r,p,a,h=>by
   unfold defAt at h
   split at h
   ·rename_i hb
    cases h
    rw [peq_ok hb]
    exact List.mem_cons_self
   ·exact List.mem_cons_of_mem _ (defAt_ok h)
theorem nmN_ok {ds:List (Nat×Poly)} (h:NmOk E ds) {p r:Poly} (hr:nmN ds p=some r):evP E.V r=evP E.V p:=by
 have h1:((1:Int):Rat)=1:=rfl
 unfold nmN at hr
 split at hr
 ·rename_i a ha
  cases hr
  have e:=h _ (defAt_ok ha)
  have e:E.V a=evP E.V p:=e
  show ((1:Int):Rat)*(E.V a*1)+0=_
  rw [h1,e];grind
 ·rw [natK_eq] at hr
  simp only [polyK_eq,monoK_eq] at hr
  split at hr
  ·rename_i a ha
   split at hr
   ·rename_i hp
    cases hr
    have e:=h _ (defAt_ok ha)
    have hev:=congrArg (evP E.V) (peq_ok hp)
    rw [evP_pscale,evP_pmulT,h1] at hev
    rw [←hev]
    show _*evM E.V (mins a _)+0=_
    rw [evM_mins]
    have e:E.V a=_:=e
    rw [e]
    grind
   ·cases hr
  ·cases hr
theorem nmK_ok {ds:List (Nat×Poly)} (h:NmOk E ds) (k:K):cK E (nmK ds k)=cK E k:=by
 cases k with
 | q n j i=>
   show cK E (match nmN ds n.p with | some p=> .q ⟨p,n.d⟩ j i | none=> .q n j i)=_
   cases hd:nmN ds n.p with
   | none=>rfl
   | some p=>
     have e:=nmN_ok h hd
     show Go.Proofs.YteiibidmicgjoaaGreatDoor.C.q (evP E.V p/((n.d+1:Nat):Rat)) j i= .q (n.ev E.V) j i
     rw [e];rfl
 | _=>rfl
theorem nmA0_ok {ds:List (Nat×Poly)} (h:NmOk E ds) (a:KA):aK0 E (nmA0 ds a)=aK0 E a:=by
 cases a with
 | one k=>show AV.one (cK E (nmK ds k))=_;rw [nmK_ok h];rfl
 | agg l=>
   show AV.agg ((l.map (nmK ds)).map (cK E))=AV.agg (l.map (cK E))
   rw [List.map_map]
   congr 1
   exact List.map_congr_left fun k _=>nmK_ok h k
 | _=>rfl
theorem nmA_ok {ds:List (Nat×Poly)} (h:NmOk E ds) (a:KA):aK E (nmA ds a)=aK E a:=by
 unfold nmA
 split
 ·rfl
 ·cases a with
  | tup l=>
    show AV.tup ((l.map (nmA0 ds)).map (aK0 E))=AV.tup (l.map (aK0 E))
    rw [List.map_map]
    congr 1
    exact List.map_congr_left fun k _=>nmA0_ok h k
  | one k=>exact nmA0_ok h (.one k)
  | agg l=>exact nmA0_ok h (.agg l)
  | junk=>rfl
theorem nmL_ok {ds:List (Nat×Poly)} (h:NmOk E ds) {l:List (CO×S)} {q:CO×S} (hq:q∈l): ∃q'∈nmL ds l,q'.2=q.2∧q'.1.ro=q.1.ro∧q'.1.rw=q.1.rw∧q'.1.nb=q.1.nb∧aK E q'.1.r=aK E q.1.r:=by
 unfold nmL
 split
 ·exact ⟨q,hq,rfl,rfl,rfl,rfl,rfl⟩
 ·exact ⟨_,List.mem_map.2 ⟨q,hq,rfl⟩,rfl,rfl,rfl,rfl,nmA_ok h q.1.r⟩
theorem callF_ok {cf:Cfg} (hm:P.follows .mixedOrders=true) (hF:funsB P=true) (hT:TyOk P cf.ty) (hL:LeavesOk P A E cf) (hN: ∀f,NmOk E (cf.nm f)): ∀n,CallerOk P A E (callF P cf n)
 | 0=>fun f args st C h=>by cases h
 | n+1=>fun f args st C h=>by
   have h:(match cf.leaf f with
    | some lf=>lf args st fun l=>C (nmL (cf.nm f) l)
    | none=>match P.funcs[f]? with
      | some fn=>(match fn.body with
        | some c=>(match pickM st.mem (idsOf args) with
          | some bs=>Nat.ble args.length fn.ntmps&&(args.all (inKA (idsOf args)))&&(bs.all fun p=>p.2.all fun c=>pfK c&&nlK c)&&
            execC cf.ty (callF P cf n) fn.ntmps c (resMask fn.results.toList 0) (resMask fn.results.toList 0) ⟨argT 0 args .nil,bs,st.nx,st.G⟩ fun l=>mapK (fun e st' C=>match e with
             | .exit _=>false
             | _=>(match resKs cf.ty st' fn.results.toList,splitM st'.mem bs with
               | some rs,some (ro,rw)=>pfKA (joinK rs)&&(Nat.beq rs.length 1 || rs.all goodK)&&(rw.all fun p=>p.2.2.all fun c=>pfK c&&nlK c)&&C [(⟨nmA (cf.nm f) (joinK rs),ro,rw,none⟩,⟨st.sl,st.mem,st'.nx,st'.G⟩)]
               | _,_=>false)) l C
          | none=>false)
        | none=>false)
      | none=>false)=true:=h
   split at h
   ·rename_i lf hlf
    obtain ⟨l,hl,hh⟩:=hL hlf args st _ h
    refine ⟨_,hl,fun hs=>?_⟩
    obtain ⟨q,hq,h1,h2,h3,h4⟩:=hh hs
    obtain ⟨q',hq',e1,e2,e3,e4,e5⟩:=nmL_ok (ds:=cf.nm f) (hN f) hq
    refine ⟨q',hq',by rw [e1];exact h1,by rw [e1];exact h2,by rw [e1];exact h3,h4.fn,fun hn=>?_,fun cs hn=>?_,?_,?_⟩
    ·rw [e2,e3,e5]
     exact h4.m (by rw [←e4];exact hn)
    ·exact h4.n cs (by rw [←e4];exact hn)
    ·rw [e2];exact h4.ro
    ·rw [e3];exact h4.rw
   ·split at h
    ·rename_i fn hfn
     split at h
     ·rename_i c hbody
      split at h
      ·rename_i bs hbs
       simp only [Bool.and_eq_true] at h
       obtain ⟨⟨⟨ha1,ha2⟩,ha3⟩,h⟩:=h
       obtain ⟨l1,h1,k1⟩:=execC_ok hm hT (callF_ok hm hF hT hL hN n) c _ _ () _ _ h
       have hg:Snd E (fun (e:Ex) st' (C:List (CO×S)→Bool)=>match e with
         | .exit _=>false
         | _=>(match resKs cf.ty st' fn.results.toList,splitM st'.mem bs with
           | some rs,some (ro,rw)=>pfKA (joinK rs)&&(Nat.beq rs.length 1 || rs.all goodK)&&(rw.all fun p=>p.2.2.all fun c=>pfK c&&nlK c)&&C [(⟨nmA (cf.nm f) (joinK rs),ro,rw,none⟩,⟨st.sl,st.mem,st'.nx,st'.G⟩)]
           | _,_=>false)) fun e st' co st''=>(e= .normal∨e= .ret)∧st''.sl=st.sl∧st''.mem=st.mem∧ ∃rs ro rw,resKs cf.ty st' fn.results.toList=some rs∧splitM st'.mem bs=some (ro,rw)∧pfKA (joinK rs)=true∧(Nat.beq rs.length 1 || rs.all goodK)=true∧(rw.all fun p=>p.2.2.all fun c=>pfK c&&nlK c)=true∧co=⟨nmA (cf.nm f) (joinK rs),ro,rw,none⟩:=fun e st' C h=>by
        have key:(match resKs cf.ty st' fn.results.toList,splitM st'.mem bs with
          | some rs,some (ro,rw)=>pfKA (joinK rs)&&(Nat.beq rs.length 1 || rs.all goodK)&&(rw.all fun p=>p.2.2.all fun c=>pfK c&&nlK c)&&C [(⟨nmA (cf.nm f) (joinK rs),ro,rw,none⟩,⟨st.sl,st.mem,st'.nx,st'.G⟩)]
          | _,_=>false)=true→(e= .normal∨e= .ret)→ ∃l,C l=true∧(Sat E st'.G→ ∃q∈l,Sat E q.2.G∧(e= .normal∨e= .ret)∧q.2.sl=st.sl∧q.2.mem=st.mem∧ ∃rs ro rw,resKs cf.ty st' fn.results.toList=some rs∧splitM st'.mem bs=some (ro,rw)∧pfKA (joinK rs)=true∧(Nat.beq rs.length 1 || rs.all goodK)=true∧(rw.all fun p=>p.2.2.all fun c=>pfK c&&nlK c)=true∧q.1=⟨nmA (cf.nm f) (joinK rs),ro,rw,none⟩):=fun h he=>by
         split at h
         ·rename_i rs ro rw hrs hsp
          simp only [Bool.and_eq_true] at h
          obtain ⟨⟨⟨b1,b2⟩,b3⟩,h⟩:=h
          exact ⟨_,h,fun hs=>⟨_,List.mem_singleton.2 rfl,hs,he,rfl,rfl,rs,ro,rw,hrs,hsp,b1,b2,b3,rfl⟩⟩
         ·cases h
        cases e with
        | exit i=>cases h
        | normal=>exact key h (.inl rfl)
        | ret=>exact key h (.inr rfl)
       obtain ⟨l2,h2,k2⟩:=mapK_snd hg l1 C h1
       refine ⟨l2,h2,fun hs=>?_⟩
       obtain ⟨q,hq,hsq,hcode⟩:=k1 hs
       obtain ⟨r,hr,hsr,he,e1,e2,rs,ro,rw,hrs,hsp,b1,b2,b3,hco⟩:=k2 q hq hsq
       refine ⟨r,hr,hsr,e1,e2,?_⟩
       obtain ⟨hp1,hp2⟩:=pickM_ok hbs
       obtain ⟨s1,s2,s3⟩:=splitM_ok hsp
       have hbk: ∀p∈bs,(p.2.all pfK=true)∧ ∀c∈p.2,nlK c=true:=fun p hp=>by
        have:=List.all_eq_true.1 ha3 p hp
        refine ⟨List.all_eq_true.2 fun c hc=>?_,fun c hc=>?_⟩
        ·have h3:=List.all_eq_true.1 this c hc
         rw [Bool.and_eq_true] at h3
         exact h3.1
        ·have h3:=List.all_eq_true.1 this c hc
         rw [Bool.and_eq_true] at h3
         exact h3.2
       have hrk: ∀p∈rw,(p.2.2.all pfK=true)∧ ∀c∈p.2.2,nlK c=true:=fun p hp=>by
        have:=List.all_eq_true.1 b3 p hp
        refine ⟨List.all_eq_true.2 fun c hc=>?_,fun c hc=>?_⟩
        ·have h3:=List.all_eq_true.1 this c hc
         rw [Bool.and_eq_true] at h3
         exact h3.1
        ·have h3:=List.all_eq_true.1 this c hc
         rw [Bool.and_eq_true] at h3
         exact h3.2
       let af:Nat×List K→List K:=fun p=>match memG q.2.mem p.1 with | some cs=>cs | none=>p.2
       have haf: ∀ {k:Nat} {b a:List K},memG q.2.mem k=some a→af (k,b)=a:=fun h=>by show (match memG q.2.mem _ with | some cs=>cs | none=>_)=_;rw [h]
       have hafk: ∀p∈bs,(af p).all pfK=true∧(∀c∈af p,nlK c=true)∧memG q.2.mem p.1=some (af p):=fun p hp=>by
        rcases s3 p hp with h | ⟨a,h⟩
        ·have h3:=(s1 p h).2
         have:af p=p.2:=haf (b:=p.2) h3
         rw [this]
         exact ⟨(hbk p hp).1,(hbk p hp).2,h3⟩
        ·have h3:=(s2 _ h).2
         have:af p=a:=haf (b:=p.2) h3
         rw [this]
         exact ⟨(hrk _ h).1,(hrk _ h).2,h3⟩
       have hctr:CtrM P A f (args.map (aK E)) (bs.map fun p=>(p.1,p.2.map (cK E),(af p).map (cK E))) (aK E (joinK rs)):=by
        refine ctr_intro hfn hbody (by rw [List.length_map];exact ha1) ?_ ?_ fun X hA hXn hXps=>?_
        ·rw [Bool.and_eq_true]
         refine ⟨pfKA_ok b1,?_⟩
         rw [List.all_map]
         refine List.all_eq_true.2 fun p hp=>?_
         show ((p.2.map (cK E)).all pfC&&((af p).map (cK E)).all pfC)=true
         rw [Bool.and_eq_true]
         exact ⟨pfKs_ok (hbk p hp).1,pfKs_ok (hafk p hp).1⟩
        ·rw [List.map_map,List.all_map]
         have:(bs.map ((fun p:Nat×List Go.Proofs.YteiibidmicgjoaaGreatDoor.C×List Go.Proofs.YteiibidmicgjoaaGreatDoor.C=>p.1)∘fun p=>(p.1,p.2.map (cK E),(af p).map (cK E))))=idsOf args:=by rw [←hp1];rfl
         rw [this]
         exact List.all_eq_true.2 fun a ha=>inKA_ok (List.all_eq_true.1 ha2 a ha)
        ·rw [List.map_map]
         have hst:=start_ok E args bs st.nx st.G
         obtain ⟨σ',hσ',haw⟩:=hcode _ hst
         refine haw X hA hXn _ ⟨?_,?_,?_⟩
         ·rcases he with he | he
          ·rw [he];exact .inl rfl
          ·rw [he];exact .inr rfl
         ·obtain ⟨vs,v1,v2,v3⟩:=resKs_ok hT hσ' hrs
          obtain ⟨j1,j2⟩:=join_ok v2 v3 b2
          exact ⟨vs,v1,j1,j2⟩
         ·intro p hp
          obtain ⟨p',hp',rfl⟩:=List.mem_map.1 hp
          obtain ⟨_,c2,c3⟩:=hafk p' hp'
          refine ⟨?_,fun i c hc=>?_⟩
          ·show σ'.sz p'.1=((af p').map (cK E)).length
           rw [←hσ'.2.2,zK_some c3,List.length_map]
          ·have hc:((af p').map (cK E))[i]?=some c:=hc
           rw [List.getElem?_map,Option.map_eq_some_iff] at hc
           obtain ⟨k,hk,rfl⟩:=hc
           refine ⟨EntC.of_eq ?_,nlB_ok (nlK_ok (c2 k (List.mem_of_getElem? hk)))⟩
           show σ'.m p'.1 i=cK E k
           rw [←hσ'.2.1]
           exact mK_some c3 hk
       have hall:CallOk P A E f args st ⟨nmA (cf.nm f) (joinK rs),ro,rw,none⟩:=by
        refine ⟨funsB_ok hF hfn hbody,fun _=>?_,fun cs h=>(by cases h),fun p hp=>hp2 p (s1 p hp).1,fun p hp=>hp2 _ (s2 p hp).1⟩
        show CtrM P A f (args.map (aK E)) (ro.map (fun p=>(p.1,p.2.map (cK E),p.2.map (cK E)))++rw.map fun p=>(p.1,p.2.1.map (cK E),p.2.2.map (cK E))) (aK E (nmA (cf.nm f) (joinK rs)))
        have enm:=nmA_ok (hN f) (joinK rs)
        refine enm▸hctr.mem fun p=>?_
        constructor
        ·intro hp
         obtain ⟨p',hp',rfl⟩:=List.mem_map.1 hp
         rcases s3 p' hp' with h | ⟨a,h⟩
         ·refine List.mem_append.2 (.inl (List.mem_map.2 ⟨p',h,?_⟩))
          have:af p'=p'.2:=haf (b:=p'.2) (s1 p' h).2
          rw [this]
         ·refine List.mem_append.2 (.inr (List.mem_map.2 ⟨_,h,?_⟩))
          have:af p'=a:=haf (b:=p'.2) (s2 _ h).2
          rw [this]
        ·intro hp
         rcases List.mem_append.1 hp with h | h
         ·obtain ⟨p',hp',rfl⟩:=List.mem_map.1 h
          obtain ⟨h3,h4⟩:=s1 p' hp'
          refine List.mem_map.2 ⟨p',h3,?_⟩
          have:af p'=p'.2:=haf (b:=p'.2) h4
          rw [this]
         ·obtain ⟨p',hp',rfl⟩:=List.mem_map.1 h
          obtain ⟨h3,h4⟩:=s2 p' hp'
          refine List.mem_map.2 ⟨_,h3,?_⟩
          have:af (p'.1,p'.2.1)=p'.2.2:=haf (b:=p'.2.1) h4
          rw [this]
       rw [hco]
       exact hall
      ·cases h
     ·cases h
    ·cases h
end
end Go.Proofs.YteiibidmicgjoaaGreatDoor
