/-
  The engine inside of a fence, in a round's frame or behind marks: what it walks holds there, too.
-/
import Derived.OrdersIn
import Derived.BigFrameIn
import Derived.RangeFuncNested
import Derived.Test.YtoabfmaagnmlhaaGreatDoorHn
namespace Go.Proofs.YtoabfmaagnmlhaaGreatDoor
open Go.RowKit
set_option linter.unusedVariables false
set_option linter.unusedSimpArgs false
abbrev FW (ro:Option Nat):Fence:= { Fence.wide with round:=ro }
def wd (ds:List Deferred) (a:Act):Act:= { a with defers:=ds }
theorem Jj (ds:List Deferred) (a:Act):(wd ds a).eval=a.eval:=by
 funext x
 cases x<;>rfl
theorem Fx (ds:List Deferred) (a:Act) (d:Option Tmp) (v:Value):(wd ds a).put d v=wd ds (a.put d v):=by cases d<;>rfl
theorem Mx (a:Act) (d:Option Tmp) (v:Value):(a.put d v).defers=a.defers:=by cases d<;>rfl
def ndO (l:List Oper):Bool:=l.all fun o=>match o.op with | .defer _=>false|_=>true
theorem MM {l:List Oper} (h:ndO l=true) {o:Oper} (ho:o∈l) (c:Call):o.op≠ .defer c:=fun e=>by
 have:=List.all_eq_true.1 h o ho
 rw [e] at this
 cases this
section
variable {P:Program} {ro:Option Nat} {n:Nat} {ds:List Deferred}
theorem Qz {o:Oper} {a:Act} {w:World} {K K':Act→World→Prop} {Q':Exit→Act→World→Prop} (hnd: ∀c,o.op≠ .defer c) (hK0: ∀a' w',K a' w'→a'.defers= []) (h:o.wp P a w K (fun _ _ _=>False)) (hK: ∀a' w',K a' w'→K' (wd ds a') w'):o.wpIn (FW ro) n P (wd ds a) w K' Q':=by
 refine ⟨fun _ _=>trivial,?_⟩
 rw [Oper.semAt_eq _ _ _ hnd,Jj]
 unfold Oper.wp at h
 generalize (execOp a.eval o).run P w=r at*
 cases r with
 | ok x w'=>
   cases x with
   | value v=>
     show K' ((wd ds a).put o.dst v) w'
     rw [Fx]
     exact hK _ _ h
   | skip=>
     show K' ((wd ds a).put o.dst undef) w'
     rw [Fx]
     exact hK _ _ h
   | defer d=>
     have:=hK0 _ _ h
     rw [Mx] at this
     cases this
   | enter f args=>
     refine ⟨fun h=>(by cases h),?_⟩
     refine (callsIn_wide (n:=n-1)).2 (Calls.mono h fun e w'' he=>?_)
     cases e with
     | returned v=>
       show K' ((wd ds a).put o.dst v) w''
       rw [Fx]
       exact hK _ _ he
     | panicked ch=>exact he.elim
     | outgrown=>obtain ⟨_,_,he⟩:=he;exact he.elim
   | row row args=>
     refine ⟨fun h=>(by cases h),fun c cs _=>?_⟩
     obtain ⟨v,w'',r,s⟩:=h c cs
     refine ⟨v,w'',?_,stepsIn_wide.2 s⟩
     show K' ((wd ds a).put o.dst v) w''
     rw [Fx]
     exact hK _ _ r
   | _=>exact h.elim
 | halt x w'=>cases x<;>exact h.elim
theorem Ru {ops:Array Oper} {i:Nat} {a:Act} {w:World} {K K':Act→World→Prop} {Q':Exit→Act→World→Prop} (hnd: ∀o,ops[i]?=some o→ ∀c,o.op≠ .defer c) (hK0: ∀a' w',K a' w'→a'.defers= []) (h:wpOp P ops (fun _ _ _=>False) i K a w) (hK: ∀a' w',K a' w'→K' (wd ds a') w'):wpOpIn (FW ro) n P ops Q' i K' (wd ds a) w:=by
 unfold wpOp at h
 unfold wpOpIn
 cases ho:ops[i]? with
 | none=>rw [ho] at h;exact hK _ _ h
 | some o=>
   rw [ho] at h
   simp only at h⊢
   have e:Region.wanted o (yielded ops (wd ds a).tmps)=Region.wanted o (yielded ops a.tmps):=rfl
   rw [e]
   by_cases hw:Region.wanted o (yielded ops a.tmps)=true
   ·rw [if_pos hw] at h⊢
    rcases h with h|⟨_,_,_,h⟩
    ·exact Qz (hnd o ho) hK0 h hK
    ·exact h.elim
   ·rw [if_neg hw] at h⊢
    refine ⟨fun _ _=>trivial,?_⟩
    rw [Fx]
    exact hK _ _ h
def Uv (P:Program) (ro:Option Nat) (n:Nat) (ops:Array Oper) (Q:Exit→Act→World→Prop) (I:(Nat→Bool)→Act→World→Prop) (i:Nat):Prop:=
 ∀(o:Oper),ops[i]?=some o→ ∀(b:Nat→Bool) (a:Act) (w:World),b i=false→(∀d∈Ch o,b d=true)→I b a w→wpOpIn (FW ro) n P ops Q i (I (up b i)) a w
theorem Km {ops:Array Oper} {Q:Exit→Act→World→Prop} {I:(Nat→Bool)→Act→World→Prop} (hs: ∀i,i<ops.size→Uv P ro n ops Q I i) (hdag: ∀(i:Nat) (o:Oper),ops[i]?=some o→ ∀d∈Ch o,d<i)
  (hend: ∀b a w,(∀i,i<ops.size→b i=true)→I b a w→Q .normal a w):
  ∀(fuel:Nat) (L:Array Bool) (a:Act) (w:World),L.size=ops.size→L.toList.count false≤fuel→I (Cp L) a w→wpAnyIn (FW ro) n P .any ops Q fuel L a w:=by
 intro fuel
 induction fuel with
 | zero=>
   intro L a w hL hc hI
   have hr:Region.ready .any ops L= []:=by
    cases h:Region.ready .any ops L with
    | nil=>rfl
    | cons i rs=>
      exfalso
      have hi:i∈Region.ready .any ops L:=by rw [h];exact List.mem_cons_self
      obtain ⟨h0,o,ho,_⟩:=mem_ready.1 hi
      have hlt:i<L.size:=by rw [hL];exact (Array.getElem?_eq_some_iff.1 ho).1
      have hf:false∈L.toList:=by
       have h1:L[i]=false:=by simpa [Array.getD,hlt] using h0
       rw [←h1]
       exact Array.mem_toList_iff.2 (Array.getElem_mem hlt)
      have:=List.count_pos_iff.2 hf
      omega
   exact ⟨hr,hend _ _ _ (Kf hdag hL hr) hI⟩
 | succ fuel ih=>
   intro L a w hL hc hI
   refine ⟨fun hr=>hend _ _ _ (Kf hdag hL hr) hI,fun i hi=>?_⟩
   obtain ⟨h0,o,ho,hall⟩:=mem_ready.1 hi
   have hlt:i<ops.size:=(Array.getElem?_eq_some_iff.1 ho).1
   have hltL:i<L.size:=by rw [hL];exact hlt
   have h1:L[i]=false:=by simpa [Array.getD,hltL] using h0
   have hb:Cp L i=false:=by simp [Cp,Array.getD,hltL,h1]
   refine wpOpIn_mono (fun a' w' hI'=>?_) (hs i hlt o ho (Cp L) a w hb (fun d hd=>?_) hI)
   ·refine ih (L.setIfInBounds i true) a' w' (by rw [Array.size_setIfInBounds];exact hL) ?_ (by rw [N8 L i hltL];exact hI')
    rw [Array.toList_setIfInBounds]
    have:=Jd (l:=L.toList) (i:=i) (by rw [Array.getElem?_toList,Array.getElem?_eq_getElem hltL,h1])
    omega
   ·obtain ⟨e,he,hbd,rfl⟩:=Ln hd
    exact hall e he hbd
variable {X:Ctx} {σ σ':St}
theorem CN.noDefers {a:Act} {w:World} (h:CN X σ a w):a.defers= []:=by
 obtain ⟨_,_,_,h⟩:=h
 exact h.defers
def Uj (ds:List Deferred) (X:Ctx) (Q:Exit→St→Prop) (e:Exit) (a:Act) (w:World):Prop:= ∃a0 σ,a=wd ds a0∧Q e σ∧CN X σ a0 w
def Awf (P:Program) (ro:Option Nat) (n:Nat) (ds:List Deferred) (X:Ctx) (c:Code) (σ:St) (Q:Exit→St→Prop):Prop:= ∀a w,CN X σ a w→c.wpIn (FW ro) n P (Uj ds X Q) (wd ds a) w
variable {Q:Exit→St→Prop}
theorem Fl (h:Q .normal σ):Awf P ro n ds X .skip σ Q:=fun _ _ hc=>wpIn_skip ⟨_,σ,rfl,h,hc⟩
theorem Fm {id:Nat} (h:Q (.exit id) σ):Awf P ro n ds X (.exit id) σ Q:=fun _ _ hc=>wpIn_exit ⟨_,σ,rfl,h,hc⟩
theorem Nt (h:Q .ret σ):Awf P ro n ds X .ret σ Q:=fun _ _ hc=>wpIn_ret ⟨_,σ,rfl,h,hc⟩
theorem Gz {x y:Code} (h:Awf P ro n ds X x σ (PK (fun σ'=>Awf P ro n ds X y σ' Q) Q)):Awf P ro n ds X (.seq x y) σ Q:=fun a w hc=>
 wpIn_seq (wpIn_mono (h a w hc) fun e a' w' ⟨a0,σ',he,h1,h2⟩=>by
  subst he
  cases e with
  | normal=>exact h1 a0 w' h2
  | _=>exact ⟨a0,σ',rfl,h1,h2⟩)
theorem EC {id:Nat} {c:Code} (h:Awf P ro n ds X c σ (Ka id Q)):Awf P ro n ds X (.block id c) σ Q:=fun a w hc=>
 wpIn_block (wpIn_mono (h a w hc) fun e a' w' ⟨a0,σ',he,h1,h2⟩=>by
  subst he
  cases e with
  | exit id'=>
    simp only [Ka] at h1
    simp only [Exit.inBlock]
    by_cases hi:id'=id
    ·rw [if_pos hi] at h1⊢;exact ⟨a0,σ',rfl,h1,h2⟩
    ·rw [if_neg hi] at h1⊢;exact ⟨a0,σ',rfl,h1,h2⟩
  | _=>exact ⟨a0,σ',rfl,h1,h2⟩)
theorem EA {c:Operand} {x y:Code} (h:evC σ.s c= .one (.v (.bool true))) (ht:Awf P ro n ds X x σ Q):Awf P ro n ds X (.cond c x y) σ Q:=fun a w hc=>wpIn_cond_true (by rw [Jj];exact F4 hc h) (ht a w hc)
theorem EB {c:Operand} {x y:Code} (h:evC σ.s c= .one (.v (.bool false))) (hf:Awf P ro n ds X y σ Q):Awf P ro n ds X (.cond c x y) σ Q:=fun a w hc=>wpIn_cond_false (by rw [Jj];exact F4 hc h) (hf a w hc)
theorem OB {ops:List Oper} {K:Exit→Act→World→Prop} (hnd:ndO ops=true) (hn: ∀(j:Nat) o',ops[j]?=some o'→ ∀t,o'.dst=some t→t<X.n): ∀ {r:List Oper} {σ σ':St} {es:List Eff},Run P X ops r σ es σ'→(∀o∈r,o∈ops)→(∀a w,CN X σ' a w→K .normal (wd ds a) w)→ ∀ {a:Act} {w:World},CN X σ a w→wpListIn (FW ro) n P ops.toArray K r (wd ds a) w:=by
 intro r σ σ' es h
 induction h with
 | nil=>exact fun _ hK a w hc=>wpListIn_nil (hK a w hc)
 | cons hD hr ha hl ih=>
   intro hm hK a w hc
   refine wpListIn_step fun K' hK'=>?_
   rename_i o l σ σ' e es
   have hmo:=hm o List.mem_cons_self
   obtain ⟨i,hi,hio⟩:=List.mem_iff_getElem.1 hmo
   have ho:ops[i]?=some o:=by rw [List.getElem?_eq_getElem hi,hio]
   have ew:Region.wanted o (yielded ops.toArray (wd ds a).tmps)=Region.wanted o (yielded ops.toArray a.tmps):=rfl
   rw [ew]
   unfold Kj at hD
   cases hg:o.guard with
   | none=>
     rw [hg] at hD
     rw [if_pos (by simp [Region.wanted,hg])]
     exact Qz (K:=fun a' w'=>CN X (σ.app o.dst e) a' w') (MM hnd hmo) (fun _ _ h=>CN.noDefers h) (hD σ (fun _ _=> .inl rfl) (fun k _=> .inr rfl) hr ha a w hc _ _ fun _ _ h=>h) fun a' w' hc'=>hK' _ _ (ih (fun o ho=>hm o (List.mem_cons_of_mem _ ho)) hK hc')
   | some gw=>
     obtain ⟨g,want⟩:=gw
     rw [hg] at hD
     obtain ⟨o',ho',d,hd,hh⟩:=hD
     have hdn:=hn g o' ho' d hd
     rcases hh with ⟨h1,h2⟩|⟨h1,rfl⟩|⟨h1,rfl⟩
     ·have hy:=CT hc ho' hd h1 hdn
      rw [if_pos (by simp [Region.wanted,hg,hy])]
      exact Qz (K:=fun a' w'=>CN X (σ.app o.dst e) a' w') (MM hnd hmo) (fun _ _ h=>CN.noDefers h) (h2 σ (fun _ _=> .inl rfl) (fun k _=> .inr rfl) hr ha a w hc _ _ fun _ _ h=>h) fun a' w' hc'=>hK' _ _ (ih (fun o ho=>hm o (List.mem_cons_of_mem _ ho)) hK hc')
     ·have hy:=CT hc ho' hd h1 hdn
      rw [if_neg (by simp [Region.wanted,hg,hy])]
      obtain ⟨W,hW,μ,hc⟩:=hc
      refine ⟨fun _ _=>trivial,?_⟩
      rw [Fx]
      exact hK' _ _ (ih (fun o ho=>hm o (List.mem_cons_of_mem _ ho)) hK ⟨W,hW,μ,Co hc (fun t ht=>hn i o ho t ht) rfl⟩)
     ·have hy:=DU hc ho' hd h1 hdn
      rw [if_neg (by simp [Region.wanted,hg,hy])]
      obtain ⟨W,hW,μ,hc⟩:=hc
      refine ⟨fun _ _=>trivial,?_⟩
      rw [Fx]
      exact hK' _ _ (ih (fun o ho=>hm o (List.mem_cons_of_mem _ ho)) hK ⟨W,hW,μ,Co hc (fun t ht=>hn i o ho t ht) rfl⟩)
theorem DF {id:Nat} {l:List Oper} (hn:(l.all fun o=>match o.dst with|some t=>Nat.blt t X.n|none=>true)=true) (hr:Ai P X l l σ fun _ σ'=>Q .normal σ') (hnd:ndO l=true:=by kernel_rfl):Awf P ro n ds X (.region id l.toArray false) σ Q:=fun a w h=>by
 obtain ⟨es,σ',h1,h2⟩:=hr
 exact wpIn_region_lit (OB hnd (fun j o' ho t ht=>by
  have:=List.all_eq_true.1 hn o' (List.mem_of_getElem? ho)
  rw [ht] at this
  simpa using this) h1 (fun _ h=>h) (fun a' _ h3=>⟨a',σ',rfl,h2,h3⟩) h)
theorem Eu {id:Nat} {l:List Oper} (hm:P.follows .mixedOrders=true) (hd:LP l=true) (hn:(l.all fun o=>match o.dst with|some t=>Nat.blt t X.n|none=>true)=true) (hr:Ai P X l l σ fun es σ'=>chk l es=true∧Q .normal σ') (hnd:ndO l=true:=by kernel_rfl):Awf P ro n ds X (.region id l.toArray true) σ Q:=fun a w h=>by
 obtain ⟨es,σ',hr,hc,hq⟩:=hr
 have hlen:=hr.len
 refine wpIn_region_any hm (Km (I:=fun b a' w'=> ∃a0,a'=wd ds a0∧Dn l b∧CN X (A8 b 0 l es σ) a0 w') (fun i hi o ho b a' w' hb hw ⟨a0,he,hI⟩=>?_) (Na hd) ?_ _ _ _ _ (by simp) (by simp) ?_)
 ·subst he
  exact Ru (K:=fun a w=>Dn l (up b i)∧CN X (A8 (up b i) 0 l es σ) a w) (fun o' ho'=>MM hnd (List.mem_of_getElem? (by simpa using ho'))) (fun _ _ h=>CN.noDefers h.2) (Gu (Q:=fun _ _ _=>False) hn hr hc i hi o ho b a0 w' hb hw hI) fun a1 w1 h1=>⟨a1,rfl,h1⟩
 ·rintro b a' w' hall ⟨a0,rfl,_,hcn⟩
  have:A8 b 0 l es σ=σ':=by
   rw [←hr.ends 0]
   have: ∀(l:List Oper) (es:List Eff) (σ:St) (k:Nat),(∀j,j<l.length→b (k+j)=true)→A8 b k l es σ=A8 (fun _=>true) k l es σ:=by
    intro l
    induction l with
    | nil=>intro es σ k _;cases es<;>rfl
    | cons o l ih=>
      intro es σ k hb
      cases es with
      | nil=>rfl
      | cons e es=>
        show A8 b (k+1) l es _=A8 _ (k+1) l es _
        rw [show b k=true from hb 0 (by simp)]
        exact ih es _ _ fun j hj=>by rw [show k+1+j=k+(j+1) from by omega];exact hb (j+1) (by simpa using hj)
   exact this l es σ 0 fun j hj=>by rw [Nat.zero_add];exact hall j (by simpa using hj)
  rw [this] at hcn
  exact ⟨a0,σ',rfl,hq,hcn⟩
 ·have:Cp (Array.replicate l.toArray.size false)=fun _=>false:=by
   funext j
   unfold Cp
   by_cases hj:j<l.length<;>simp [Array.getD,hj]
  rw [this]
  refine ⟨a,rfl,fun i o _ hb=>by simp at hb,?_⟩
  rw [Em fun _ _=>rfl]
  exact h.drew
end
end Go.Proofs.YtoabfmaagnmlhaaGreatDoor
