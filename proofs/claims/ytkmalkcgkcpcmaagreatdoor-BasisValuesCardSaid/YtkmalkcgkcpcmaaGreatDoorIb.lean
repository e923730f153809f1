/-
  Several texts in one: Nj, No, Nl, Nm, Nn, Nq.
-/
import Derived.Test.YtkmalkcgkcpcmaaGreatDoorHn
import Derived.Test.YtkmalkcgkcpcmaaGreatDoorIa
import Derived.OrdersIn
import Derived.BigFrameIn
import Derived.RangeFuncNested
import Derived.RangeFuncBox
import Derived.Shelf.Abstract
import Derived.Shelf.RegionOpen
import Derived.WalkKit
namespace Go.Proofs.YtkmalkcgkcpcmaaGreatDoor
open Nat renaming le_refl→Yh
open Go.RowKit
set_option linter.unusedVariables false
set_option linter.unusedSimpArgs false
abbrev FW (ro:Option Nat):Fence:= { Fence.wide with round:=ro }
def wd (ds:List Deferred) (a:Act):Act:= { a with defers:=ds }
theorem Ld (ds:List Deferred) (a:Act):(wd ds a).eval=a.eval:=by
 funext x
 cases x<;>rfl
theorem Gw (ds:List Deferred) (a:Act) (d:Option Tmp) (v:Value):(wd ds a).put d v=wd ds (a.put d v):=by cases d<;>rfl
theorem OV (a:Act) (d:Option Tmp) (v:Value):(a.put d v).defers=a.defers:=by cases d<;>rfl
def ndO (l:List Oper):Bool:=l.all fun o=>match o.op with | .defer _=>false|_=>true
theorem Pf {l:List Oper} (h:ndO l=true) {o:Oper} (ho:o∈l) (c:Call):o.op≠ .defer c:=fun e=>by
 have:=List.all_eq_true.1 h o ho
 rw [e] at this
 cases this
section
variable {P:Program} {ro:Option Nat} {n:Nat} {ds:List Deferred}
theorem Ty {o:Oper} {a:Act} {w:World} {K K':Act→World→Prop} {Q':Exit→Act→World→Prop} (hnd: ∀c,o.op≠ .defer c) (hK0: ∀a' w',K a' w'→a'.defers= []) (h:o.wp P a w K (fun _ _ _=>False)) (hK: ∀a' w',K a' w'→K' (wd ds a') w'):o.wpIn (FW ro) n P (wd ds a) w K' Q':=by
 refine ⟨fun _ _=>trivial,?_⟩
 rw [Oper.semAt_eq _ _ _ hnd,Ld]
 unfold Oper.wp at h
 generalize (execOp a.eval o).run P w=r at*
 cases r with
 | ok x w'=>
   cases x with
   | value v=>
     show K' ((wd ds a).put o.dst v) w'
     rw [Gw]
     exact hK _ _ h
   | skip=>
     show K' ((wd ds a).put o.dst undef) w'
     rw [Gw]
     exact hK _ _ h
   | defer d=>
     have:=hK0 _ _ h
     rw [OV] at this
     cases this
   | enter f args=>
     refine ⟨fun h=>(by cases h),?_⟩
     refine (callsIn_wide (n:=n-1)).2 (Calls.mono h fun e w'' he=>?_)
     cases e with
     | returned v=>
       show K' ((wd ds a).put o.dst v) w''
       rw [Gw]
       exact hK _ _ he
     | panicked ch=>exact he.elim
     | outgrown=>obtain ⟨_,_,he⟩:=he;exact he.elim
   | row row args=>
     refine ⟨fun h=>(by cases h),fun c cs _=>?_⟩
     obtain ⟨v,w'',r,s⟩:=h c cs
     refine ⟨v,w'',?_,stepsIn_wide.2 s⟩
     show K' ((wd ds a).put o.dst v) w''
     rw [Gw]
     exact hK _ _ r
   | _=>exact h.elim
 | halt x w'=>cases x<;>exact h.elim
theorem UN {ops:Array Oper} {i:Nat} {a:Act} {w:World} {K K':Act→World→Prop} {Q':Exit→Act→World→Prop} (hnd: ∀o,ops[i]?=some o→ ∀c,o.op≠ .defer c) (hK0: ∀a' w',K a' w'→a'.defers= []) (h:wpOp P ops (fun _ _ _=>False) i K a w) (hK: ∀a' w',K a' w'→K' (wd ds a') w'):wpOpIn (FW ro) n P ops Q' i K' (wd ds a) w:=by
 unfold wpOp at h
 unfold wpOpIn
 cases ho:ops[i]? with
 | none=>rw [ho] at h;exact hK _ _ h
 | some o=>
   rw [ho] at h
   simp only at h⊢
   have e:Region.wanted o (yielded ops (wd ds a).tmps)=Region.wanted o (yielded ops a.tmps):=rfl
   rw [e]
   by_cases hw:Region.wanted o (yielded ops a.tmps)=true
   ·rw [if_pos hw] at h⊢
    rcases h with h|⟨_,_,_,h⟩
    ·exact Ty (hnd o ho) hK0 h hK
    ·exact h.elim
   ·rw [if_neg hw] at h⊢
    refine ⟨fun _ _=>trivial,?_⟩
    rw [Gw]
    exact hK _ _ h
def X6 (P:Program) (ro:Option Nat) (n:Nat) (ops:Array Oper) (Q:Exit→Act→World→Prop) (I:(Nat→Bool)→Act→World→Prop) (i:Nat):Prop:=
 ∀(o:Oper),ops[i]?=some o→ ∀(b:Nat→Bool) (a:Act) (w:World),b i=false→(∀d∈CF o,b d=true)→I b a w→wpOpIn (FW ro) n P ops Q i (I (up b i)) a w
theorem Mg {ops:Array Oper} {Q:Exit→Act→World→Prop} {I:(Nat→Bool)→Act→World→Prop} (hs: ∀i,i<ops.size→X6 P ro n ops Q I i) (hdag: ∀(i:Nat) (o:Oper),ops[i]?=some o→ ∀d∈CF o,d<i)
  (hend: ∀b a w,(∀i,i<ops.size→b i=true)→I b a w→Q .normal a w):
  ∀(fuel:Nat) (L:Array Bool) (a:Act) (w:World),L.size=ops.size→L.toList.count false≤fuel→I (C7 L) a w→wpAnyIn (FW ro) n P .any ops Q fuel L a w:=by
 intro fuel
 induction fuel with
 | zero=>
   intro L a w hL hc hI
   have hr:Region.ready .any ops L= []:=by
    cases h:Region.ready .any ops L with
    | nil=>rfl
    | cons i rs=>
      exfalso
      have hi:i∈Region.ready .any ops L:=by rw [h];exact List.mem_cons_self
      obtain ⟨h0,o,ho,_⟩:=mem_ready.1 hi
      have hlt:i<L.size:=by rw [hL];exact (Array.getElem?_eq_some_iff.1 ho).1
      have hf:false∈L.toList:=by
       have h1:L[i]=false:=by simpa [Array.getD,hlt] using h0
       rw [←h1]
       exact Array.mem_toList_iff.2 (Array.getElem_mem hlt)
      have:=List.count_pos_iff.2 hf
      omega
   exact ⟨hr,hend _ _ _ (Ma hdag hL hr) hI⟩
 | succ fuel ih=>
   intro L a w hL hc hI
   refine ⟨fun hr=>hend _ _ _ (Ma hdag hL hr) hI,fun i hi=>?_⟩
   obtain ⟨h0,o,ho,hall⟩:=mem_ready.1 hi
   have hlt:i<ops.size:=(Array.getElem?_eq_some_iff.1 ho).1
   have hltL:i<L.size:=by rw [hL];exact hlt
   have h1:L[i]=false:=by simpa [Array.getD,hltL] using h0
   have hb:C7 L i=false:=by simp [C7,Array.getD,hltL,h1]
   refine wpOpIn_mono (fun a' w' hI'=>?_) (hs i hlt o ho (C7 L) a w hb (fun d hd=>?_) hI)
   ·refine ih (L.setIfInBounds i true) a' w' (by rw [Array.size_setIfInBounds];exact hL) ?_ (by rw [QA L i hltL];exact hI')
    rw [Array.toList_setIfInBounds]
    have:=KX (l:=L.toList) (i:=i) (by rw [Array.getElem?_toList,Array.getElem?_eq_getElem hltL,h1])
    omega
   ·obtain ⟨e,he,hbd,rfl⟩:=Nj hd
    exact hall e he hbd
variable {X:Ctx} {σ σ':St}
theorem CN.noDefers {a:Act} {w:World} (h:CN X σ a w):a.defers= []:=by
 obtain ⟨_,_,_,h⟩:=h
 exact h.defers
def Wg (ds:List Deferred) (X:Ctx) (Q:Exit→St→Prop) (e:Exit) (a:Act) (w:World):Prop:= ∃a0 σ,a=wd ds a0∧Q e σ∧CN X σ a0 w
def Awf (P:Program) (ro:Option Nat) (n:Nat) (ds:List Deferred) (X:Ctx) (c:Code) (σ:St) (Q:Exit→St→Prop):Prop:= ∀a w,CN X σ a w→c.wpIn (FW ro) n P (Wg ds X Q) (wd ds a) w
variable {Q:Exit→St→Prop}
theorem Gl (h:Q .normal σ):Awf P ro n ds X .skip σ Q:=fun _ _ hc=>wpIn_skip ⟨_,σ,rfl,h,hc⟩
theorem Gm {id:Nat} (h:Q (.exit id) σ):Awf P ro n ds X (.exit id) σ Q:=fun _ _ hc=>wpIn_exit ⟨_,σ,rfl,h,hc⟩
theorem PI (h:Q .ret σ):Awf P ro n ds X .ret σ Q:=fun _ _ hc=>wpIn_ret ⟨_,σ,rfl,h,hc⟩
theorem Il {x y:Code} (h:Awf P ro n ds X x σ (Mt (fun σ'=>Awf P ro n ds X y σ' Q) Q)):Awf P ro n ds X (.seq x y) σ Q:=fun a w hc=>
 wpIn_seq (wpIn_mono (h a w hc) fun e a' w' ⟨a0,σ',he,h1,h2⟩=>by
  subst he
  cases e with
  | normal=>exact h1 a0 w' h2
  | _=>exact ⟨a0,σ',rfl,h1,h2⟩)
theorem Ff {id:Nat} {c:Code} (h:Awf P ro n ds X c σ (L8 id Q)):Awf P ro n ds X (.block id c) σ Q:=fun a w hc=>
 wpIn_block (wpIn_mono (h a w hc) fun e a' w' ⟨a0,σ',he,h1,h2⟩=>by
  subst he
  cases e with
  | exit id'=>
    simp only [L8] at h1
    simp only [Exit.inBlock]
    by_cases hi:id'=id
    ·rw [if_pos hi] at h1⊢;exact ⟨a0,σ',rfl,h1,h2⟩
    ·rw [if_neg hi] at h1⊢;exact ⟨a0,σ',rfl,h1,h2⟩
  | _=>exact ⟨a0,σ',rfl,h1,h2⟩)
theorem Fd {c:Operand} {x y:Code} (h:evC σ.s c= .one (.v (.bool true))) (ht:Awf P ro n ds X x σ Q):Awf P ro n ds X (.cond c x y) σ Q:=fun a w hc=>wpIn_cond_true (by rw [Ld];exact Hd hc h) (ht a w hc)
theorem Fe {c:Operand} {x y:Code} (h:evC σ.s c= .one (.v (.bool false))) (hf:Awf P ro n ds X y σ Q):Awf P ro n ds X (.cond c x y) σ Q:=fun a w hc=>wpIn_cond_false (by rw [Ld];exact Hd hc h) (hf a w hc)
theorem Rf {ops:List Oper} {K:Exit→Act→World→Prop} (hnd:ndO ops=true) (hn: ∀(j:Nat) o',ops[j]?=some o'→ ∀t,o'.dst=some t→t<X.n): ∀ {r:List Oper} {σ σ':St} {es:List Eff},Run P X ops r σ es σ'→(∀o∈r,o∈ops)→(∀a w,CN X σ' a w→K .normal (wd ds a) w)→ ∀ {a:Act} {w:World},CN X σ a w→wpListIn (FW ro) n P ops.toArray K r (wd ds a) w:=by
 intro r σ σ' es h
 induction h with
 | nil=>exact fun _ hK a w hc=>wpListIn_nil (hK a w hc)
 | cons hD hr ha hl ih=>
   intro hm hK a w hc
   refine wpListIn_step fun K' hK'=>?_
   rename_i o l σ σ' e es
   have hmo:=hm o List.mem_cons_self
   obtain ⟨i,hi,hio⟩:=List.mem_iff_getElem.1 hmo
   have ho:ops[i]?=some o:=by rw [List.getElem?_eq_getElem hi,hio]
   have ew:Region.wanted o (yielded ops.toArray (wd ds a).tmps)=Region.wanted o (yielded ops.toArray a.tmps):=rfl
   rw [ew]
   unfold Me at hD
   cases hg:o.guard with
   | none=>
     rw [hg] at hD
     rw [if_pos (by simp [Region.wanted,hg])]
     exact Ty (K:=fun a' w'=>CN X (σ.app o.dst e) a' w') (Pf hnd hmo) (fun _ _ h=>CN.noDefers h) (hD σ (fun _ _=> .inl rfl) (fun k _=> .inr rfl) hr ha a w hc _ _ fun _ _ h=>h) fun a' w' hc'=>hK' _ _ (ih (fun o ho=>hm o (List.mem_cons_of_mem _ ho)) hK hc')
   | some gw=>
     obtain ⟨g,want⟩:=gw
     rw [hg] at hD
     obtain ⟨o',ho',d,hd,hh⟩:=hD
     have hdn:=hn g o' ho' d hd
     rcases hh with ⟨h1,h2⟩|⟨h1,rfl⟩|⟨h1,rfl⟩
     ·have hy:=Do hc ho' hd h1 hdn
      rw [if_pos (by simp [Region.wanted,hg,hy])]
      exact Ty (K:=fun a' w'=>CN X (σ.app o.dst e) a' w') (Pf hnd hmo) (fun _ _ h=>CN.noDefers h) (h2 σ (fun _ _=> .inl rfl) (fun k _=> .inr rfl) hr ha a w hc _ _ fun _ _ h=>h) fun a' w' hc'=>hK' _ _ (ih (fun o ho=>hm o (List.mem_cons_of_mem _ ho)) hK hc')
     ·have hy:=Do hc ho' hd h1 hdn
      rw [if_neg (by simp [Region.wanted,hg,hy])]
      obtain ⟨W,hW,μ,hc⟩:=hc
      refine ⟨fun _ _=>trivial,?_⟩
      rw [Gw]
      exact hK' _ _ (ih (fun o ho=>hm o (List.mem_cons_of_mem _ ho)) hK ⟨W,hW,μ,Cg hc (fun t ht=>hn i o ho t ht) rfl⟩)
     ·have hy:=EH hc ho' hd h1 hdn
      rw [if_neg (by simp [Region.wanted,hg,hy])]
      obtain ⟨W,hW,μ,hc⟩:=hc
      refine ⟨fun _ _=>trivial,?_⟩
      rw [Gw]
      exact hK' _ _ (ih (fun o ho=>hm o (List.mem_cons_of_mem _ ho)) hK ⟨W,hW,μ,Cg hc (fun t ht=>hn i o ho t ht) rfl⟩)
theorem Ej {id:Nat} {l:List Oper} (hn:(l.all fun o=>match o.dst with|some t=>Nat.blt t X.n|none=>true)=true) (hr:Ag P X l l σ fun _ σ'=>Q .normal σ') (hnd:ndO l=true:=by kernel_rfl):Awf P ro n ds X (.region id l.toArray false) σ Q:=fun a w h=>by
 obtain ⟨es,σ',h1,h2⟩:=hr
 exact wpIn_region_lit (Rf hnd (fun j o' ho t ht=>by
  have:=List.all_eq_true.1 hn o' (List.mem_of_getElem? ho)
  rw [ht] at this
  simpa using this) h1 (fun _ h=>h) (fun a' _ h3=>⟨a',σ',rfl,h2,h3⟩) h)
theorem Fc {id:Nat} {l:List Oper} (hm:P.follows .mixedOrders=true) (hd:Pw l=true) (hn:(l.all fun o=>match o.dst with|some t=>Nat.blt t X.n|none=>true)=true) (hr:Ag P X l l σ fun es σ'=>chk l es=true∧Q .normal σ') (hnd:ndO l=true:=by kernel_rfl):Awf P ro n ds X (.region id l.toArray true) σ Q:=fun a w h=>by
 obtain ⟨es,σ',hr,hc,hq⟩:=hr
 have hlen:=hr.len
 refine wpIn_region_any hm (Mg (I:=fun b a' w'=> ∃a0,a'=wd ds a0∧Dn l b∧CN X (BP b 0 l es σ) a0 w') (fun i hi o ho b a' w' hb hw ⟨a0,he,hI⟩=>?_) (Uo hd) ?_ _ _ _ _ (by simp) (by simp) ?_)
 ·subst he
  exact UN (K:=fun a w=>Dn l (up b i)∧CN X (BP (up b i) 0 l es σ) a w) (fun o' ho'=>Pf hnd (List.mem_of_getElem? (by simpa using ho'))) (fun _ _ h=>CN.noDefers h.2) (KP (Q:=fun _ _ _=>False) hn hr hc i hi o ho b a0 w' hb hw hI) fun a1 w1 h1=>⟨a1,rfl,h1⟩
 ·rintro b a' w' hall ⟨a0,rfl,_,hcn⟩
  have:BP b 0 l es σ=σ':=by
   rw [←hr.ends 0]
   have: ∀(l:List Oper) (es:List Eff) (σ:St) (k:Nat),(∀j,j<l.length→b (k+j)=true)→BP b k l es σ=BP (fun _=>true) k l es σ:=by
    intro l
    induction l with
    | nil=>intro es σ k _;cases es<;>rfl
    | cons o l ih=>
      intro es σ k hb
      cases es with
      | nil=>rfl
      | cons e es=>
        show BP b (k+1) l es _=BP _ (k+1) l es _
        rw [show b k=true from hb 0 (by simp)]
        exact ih es _ _ fun j hj=>by rw [show k+1+j=k+(j+1) from by omega];exact hb (j+1) (by simpa using hj)
   exact this l es σ 0 fun j hj=>by rw [Nat.zero_add];exact hall j (by simpa using hj)
  rw [this] at hcn
  exact ⟨a0,σ',rfl,hq,hcn⟩
 ·have:C7 (Array.replicate l.toArray.size false)=fun _=>false:=by
   funext j
   unfold C7
   by_cases hj:j<l.length<;>simp [Array.getD,hj]
  rw [this]
  refine ⟨a,rfl,fun i o _ hb=>by simp at hb,?_⟩
  rw [Gg fun _ _=>rfl]
  exact h.drew
end
set_option maxRecDepth 20000
set_option maxHeartbeats 4000000
abbrev XB (V B:World) (g k0 n:Nat):Ctx:=⟨V,B,fun x=>x=g,n,[k0],fun _=>(g,1)⟩
theorem Uu {V B w:World} {n g k0:Nat} {ss:List (Nat×AV)} {v:Value} {e:TypeId} {a:Act} (hF:Fr V w) (hk:Kd (fun x=>x=g) B w) (hd:a.defers= []) (hs:a.tmps.size=n) (hg:w.heap[g]?=some (.cells #[v] e (0,0))) (hv:noL v) (hna: ¬alive V g)
  (h: ∀p∈ss,cv V (fun _=>(g,1)) (fun k=>(lk [] [(k0,[C.v v])] k).length) w (a.tmps.getD p.1 undef) p.2):CN (XB V B g k0 n) (stL ss [(k0,[.v v])]) a w:=by
 have key: ∀k,(lk [] [(k0,[C.v v])] k).length≠0→k=k0:=fun k hk=>by
  unfold lk at hk
  cases hb:Nat.beq k0 k with
  | true=>exact (Nat.eq_of_beq_eq_true hb).symm
  | false=>rw [hb] at hk;exact absurd rfl hk
 have k1:lk [] [(k0,[C.v v])] k0= [C.v v]:=by
  unfold lk
  rw [show Nat.beq k0 k0=true by simp]
 refine C0.cn ⟨fun _=>(g,1),hF,hk,hd,hs,fun t=>?_,fun k hk=>?_,fun k k' h1 h2 _=>(key k h1).trans (key k' h2).symm,fun k _=>⟨hna,.inr rfl⟩,fun k hk=>?_⟩
 ·show cv V (fun _=>(g,1)) (fun k=>(lk [] [(k0,[C.v v])] k).length) w (a.tmps.getD t undef) (lk .junk ss t)
  rcases ES (d:=AV.junk) (l:=ss) (k:=t) with h1|h1
  ·rw [h1];exact trivial
  ·exact h _ h1
 ·obtain rfl:=key k hk
  refine ⟨#[v],e,hg,rfl,?_,fun o x hx=>?_⟩
  ·show (lk [] [(k,[C.v v])] k).length≤1
   rw [k1];exact Yh _
  ·have ho:o=0:=by
    have:=(Array.getElem?_eq_some_iff.1 hx).1
    simpa using this
   subst ho
   have hxv:v=x:=by simpa using hx
   subst hxv
   refine ⟨hv,fun _=>?_⟩
   show cc V _ _ w v ((lk [] [(k,[C.v v])] k).getD 0 (.v (.bool false)))∧nl ((lk [] [(k,[C.v v])] k).getD 0 (.v (.bool false)))
   rw [k1]
   exact ⟨rfl,hv⟩
 ·have:k=k0:=by simpa using hk
  subst this
  refine ⟨rfl,?_⟩
  show (lk [] [(k,[C.v v])] k).length≠0
  rw [k1];exact Nat.one_ne_zero
theorem VU {V B w:World} {n g k0:Nat} {ss:List (Nat×AV)} {v:Value} {a:Act} (h:CN (XB V B g k0 n) (stL ss [(k0,[.v v])]) a w):Kd (fun x=>x=g) B w∧ ∃e,w.heap[g]?=some (.cells #[v] e (0,0))∧noL v:=by
 obtain ⟨W1,hg,μ,h⟩:=h
 have k1:lk [] [(k0,[C.v v])] k0= [C.v v]:=by
  unfold lk
  rw [show Nat.beq k0 k0=true by simp]
 obtain ⟨hm,hz⟩:=h.par k0 (List.mem_singleton.2 rfl)
 obtain ⟨cs,e,h1,h2,h3,h4⟩:=h.blk k0 hz
 rw [hm] at h1 h2
 refine ⟨h.kd,e,?_,?_⟩
 all_goals
  have hl:cs.size=1:=h2
  obtain ⟨x,hx⟩: ∃x,cs= #[x]:=by
   obtain ⟨l⟩:=cs
   match l,hl with
   | [x],_=>exact ⟨x,rfl⟩
  subst hx
  obtain ⟨hn,hc⟩:=h4 0 x rfl
  have hc:=(hc (by
   show 0<(lk [] [(k0,[C.v v])] k0).length
   rw [k1];exact Nat.zero_lt_one)).1
  have hc:cc W1 μ _ w x ((lk [] [(k0,[C.v v])] k0).getD 0 (.v (.bool false))):=hc
  rw [k1] at hc
  have hxv:x=v:=hc
  subst hxv
 ·exact h1
 ·exact hn
def XZ (X:Ctx) (k0:Nat) (G:Prop) (v:Value) (Jm:Code→Value→Prop):Exit→St→Prop
 | .normal,σ=>G∧Wk X σ [] [(k0,[.v v])]
 | .ret,σ=> ∃v',Jm .ret v'∧Wk X σ [] [(k0,[.v v'])]
 | .exit id,σ=> ∃v',Jm (.exit id) v'∧Wk X σ [] [(k0,[.v v'])]
 | _,_=>False
theorem Kd.grownFrom {g:Nat} {w W W':World} {row:Option Nat} (h:Kd (fun x=>x=g) w W) (hg:W.grownBy W' row) (hr: ∀r,row=some r→w.heap.size≤r):Kd (fun x=>x=g) w W':=
 ⟨hg.os.trans h.os,hg.tape.trans h.tape,hg.output.trans h.output,Nat.le_trans h.size hg.size,fun k hk hd=>(hg.block k (Nat.lt_of_lt_of_le hk h.size) (fun e=>by have:=hr k e.symm;omega)).trans (h.block k hk hd)⟩
theorem WU {α:Type} {P:Program} {n N:Nat} {g:Operand} {ps:Array Tmp} {assign body:Code} {gf:Nat} {lb:Array Value} {encs:α→Array Value} {S Sp:List α→Prop} {NN:Nat} {V w1:World} {gb k0:Nat} {T:TypeId} {val:List α→Value} {G:List α→Prop} {Jm:Code→List α→Value→Prop} {a:Act} {a₁:α→Act} {ssx:α→List (Nat×AV)} {Q:Exit→Act→World→Prop}
  (h1:1≤n) (hgv:a.eval g= .func (.func gf) #[] lb) (eg: ∀args w,(callFunc gf args).run P w= .ok (.enter gf args) w) (hseq:SeqStopsK Fence.wide (n-1) P gf lb encs (KpC fun x=>x=gb) S Sp NN w1) (hps: ∀x,(encs x).size=ps.size)
  (hV:Fr V w1) (hgb:w1.heap[gb]?=some (.cells #[val []] T (0,0))) (hna: ¬alive V gb) (hno: ∀pre,noL (val pre))
  (hassign: ∀(l:Nat) (x:α) (W:World) (K:Act→World→Prop),K (a₁ x) W→assign.wpIn (Fence.wide.inRound l) (n-1-1) P (Exit.then K (fun _ _ _=>False)) { tmps:=(ps.zip (encs x)).foldl (fun t (p,v)=>t.setIfInBounds p v) a.tmps,defers:= [] } W)
  (hslots: ∀x,(a₁ x).defers= []∧(a₁ x).tmps.size=N∧ ∀W sz,Fr V W→Kl w1 W→sz k0≠0→ ∀p∈ssx x,cv V (fun _=>(gb,1)) sz W ((a₁ x).tmps.getD p.1 undef) p.2)
  (hG:G []) (hbody: ∀(l:Nat) (pre:List α) (x:α) (W:World),G pre→Awf P (some l) (n-1-1) [] (XB V W gb k0 N) body (stL (ssx x) [(k0,[.v (val pre)])]) (XZ (XB V W gb k0 N) k0 (G (pre++ [x])) (val (pre++ [x])) fun c v=>Jm c (pre++ [x]) v))
  (hdone: ∀(D:Nat) (xs:List α) (W:World) (e:TypeId),w1.heap.size≤D→S xs→G xs→W.heap[gb]?=some (.cells #[val xs] e (0,0))→Kd (fun x=>x=gb) w1 W→W.heap[D]?=some (.deferred (some []))→Q .normal { a with defers:= { target:= .collected D,args:= #[] } ::a.defers } W)
  (hstop: ∀(D:Nat) (c:Code) (pre:List α) (v:Value) (W:World) (e:TypeId),w1.heap.size≤D→Sp pre→Jm c pre v→noL v→W.heap[gb]?=some (.cells #[v] e (0,0))→Kd (fun x=>x=gb) w1 W→W.heap[D]?=some (.deferred (some []))→c.wpIn Fence.wide n P Q { a with defers:= { target:= .collected D,args:= #[] } ::a.defers } W):
  (Code.rangeFunc g ps assign body).wpIn Fence.wide n P Q a w1:=by
 have hlt:gb<w1.heap.size:=(Array.getElem?_eq_some_iff.1 hgb).1
 have hfr: ∀ {W:World},Kd (fun x=>x=gb) w1 W→Fr V W:=fun {W} h q hq=>by
  have h2:=hV q hq
  obtain ⟨c,e,fz,h3,h4⟩:=hq
  rw [←h2]
  exact h.block q (Array.getElem?_eq_some_iff.1 (h2.trans h3)).1 fun e=>hna (e▸⟨c,_,fz,h3,h4⟩)
 have hkl: ∀ {W:World},Kd (fun x=>x=gb) w1 W→Kl w1 W:=fun {W} h=>⟨h.size,fun q c e fz hq hu=>h.block q (Array.getElem?_eq_some_iff.1 hq).1 fun eq=>by
  subst eq
  rw [hgb] at hq
  cases hq
  obtain ⟨i,m,hi⟩:=hu
  have hi0:i=0:=by
   have:=(Array.getElem?_eq_some_iff.1 hi).1
   simpa using this
  subst hi0
  have:val []= .int .u32 m:=by simpa using hi
  exact (hno []).1 m this⟩
 refine wpIn_rangeFunc_ownF rfl h1 hgv trivial eg hseq (fun h k=>h.trans k) (fun W l o o' hle hl ho _=>KpC.put W o' hl ho (by omega)) (Below.refl _ _) hps
  (fun pre W=>(G pre∧ ∃e,W.heap[gb]?=some (.cells #[val pre] e (0,0)))∧Kd (fun x=>x=gb) w1 W)
  (fun c pre W=>(∃v e,Jm c pre v∧noL v∧W.heap[gb]?=some (.cells #[v] e (0,0)))∧Kd (fun x=>x=gb) w1 W)
  (fun s A B row hs hg hr=>⟨?_,hs.2.grownFrom hg fun r e=>(hr r e).1⟩) (fun c s A B row hs hg hr=>⟨?_,hs.2.grownFrom hg fun r e=>(hr r e).1⟩) ⟨⟨hG,T,hgb⟩,Kd.refl _ _⟩ a₁ hassign ?_ ?_ ?_
 ·obtain ⟨hG1,e,he⟩:=hs.1
  exact ⟨hG1,e,(hg.block gb (Array.getElem?_eq_some_iff.1 he).1 fun er=>by have:=(hr gb er.symm).1;omega).trans he⟩
 ·obtain ⟨v,e,hj,hv,he⟩:=hs.1
  exact ⟨v,e,hj,hv,(hg.block gb (Array.getElem?_eq_some_iff.1 he).1 fun er=>by have:=(hr gb er.symm).1;omega).trans he⟩
 ·rintro l pre x W ⟨⟨hG1,e,he⟩,hk⟩ _
  obtain ⟨hd1,hs1,hsl⟩:=hslots x
  have hz:(fun k=>(lk [] [(k0,[C.v (val pre)])] k).length) k0≠0:=by
   show (lk [] [(k0,[C.v (val pre)])] k0).length≠0
   unfold lk
   rw [show Nat.beq k0 k0=true by simp]
   exact Nat.one_ne_zero
  have hcn:CN (XB V W gb k0 N) (stL (ssx x) [(k0,[.v (val pre)])]) (a₁ x) W:=Uu (hfr hk) (Kd.refl _ _) hd1 hs1 he (hno pre) hna (hsl W _ (hfr hk) (hkl hk) hz)
  have hb:=hbody l pre x W hG1 (a₁ x) W hcn
  have e0:wd [] (a₁ x)=a₁ x:=by
   show ({ tmps:=(a₁ x).tmps,defers:= [] } :Act)=a₁ x
   rw [←hd1]
  rw [e0] at hb
  refine wpIn_mono hb ?_
  rintro ex a' W' ⟨a0,σ,rfl,hq,hc⟩
  have fin: ∀ {v:Value},Wk (XB V W gb k0 N) σ [] [(k0,[.v v])]→KeepsOthers W W'∧KpC (fun x=>x=gb) W W'∧(∃e,W'.heap[gb]?=some (.cells #[v] e (0,0)))∧noL v∧Kd (fun x=>x=gb) w1 W':=fun {v} hw=>by
   obtain ⟨hkd,e',he',hv⟩:=VU (hw.cn hc)
   refine ⟨⟨hkd.size,fun k o ho hoc=>?_⟩,⟨hkd.os,hkd.tape,hkd.output,hkd.size,fun k c e2 fz hk2 hd2=>(hkd.block k (Array.getElem?_eq_some_iff.1 hk2).1 hd2).trans hk2,fun _ k c e2 fz hd2 hk2 i m hi=>?_⟩,⟨e',he'⟩,hv,?_⟩
   ·by_cases hkg:k=gb
    ·subst hkg
     rw [he] at ho
     cases ho
     cases hoc
    ·exact (hkd.block k (Array.getElem?_eq_some_iff.1 ho).1 hkg).trans ho
   ·subst hd2
    rw [he'] at hk2
    cases hk2
    have hi0:i=0:=by
     have:=(Array.getElem?_eq_some_iff.1 hi).1
     simpa using this
    subst hi0
    have:v= .int .u32 m:=by simpa using hi
    exact hv.1 m this
   ·exact hk.trans hkd
  cases ex with
  | normal=>
    obtain ⟨f1,f2,f3,_,f4⟩:=fin hq.2
    exact ⟨f1,f2,⟨hq.1,f3⟩,f4⟩
  | ret=>
    obtain ⟨v,hj,hw⟩:=hq
    obtain ⟨f1,_,⟨e2,f3⟩,f5,f4⟩:=fin hw
    exact ⟨f1,⟨v,e2,hj,f5,f3⟩,f4⟩
  | exit id=>
    obtain ⟨v,hj,hw⟩:=hq
    obtain ⟨f1,_,⟨e2,f3⟩,f5,f4⟩:=fin hw
    exact ⟨f1,⟨v,e2,hj,f5,f3⟩,f4⟩
  | _=>exact hq.elim
 ·rintro D xs W hD hS ⟨⟨hG1,e,he⟩,hk⟩ hDh
  exact hdone D xs W e hD hS hG1 he hk hDh
 ·rintro D c pre W hD hSp ⟨⟨v,e,hj,hv,he⟩,hk⟩ hDh
  exact hstop D c pre v W e hD hSp hj hv he hk hDh
theorem AS {l:List Rat} {i:Nat} {x:Rat} (h:l[i]?=some x):l.getD i 0=x:=by
 rw [List.getD_eq_getElem?_getD,h];rfl
section
variable {P:Program} {X:Ctx} {ops l:List Oper} {σ:St} {K:List Eff→St→Prop} {dst:Option Tmp} {ty:TypeId} {pos:String} {af:Array Edge} {gd:Option (Nat×Bool)}
theorem RC {s:Nat→AV} {t u:TypeId} {x y:Operand} {a b:ByteArray} (hx:evC s x= .one (.v (.string a))) (hy:evC s y= .one (.v (.string b))) (hab:a=b):C8 P ⟨dst,.binOp .eql t x y u,ty,pos,af,gd⟩ s (.one (.v (.bool true))):=fun W0 μ sz w ρ hρ=>by
 have h:=hρ x (by simp [Op.operands])
 rw [hx] at h
 replace h:ρ x= .string a:=h
 have h':=hρ y (by simp [Op.operands])
 rw [hy] at h'
 replace h':ρ y= .string b:=h'
 refine ⟨.bool true,?_,rfl⟩
 have h4:(binOp .eql t (.string a) (.string b)).run P w= .ok (.bool true) w:=by
  show (Op.stringOp .eql a b).run P w=_
  rw [hab]
  show Result.ok (Value.bool (b.toList==b.toList)) w=_
  rw [beq_self_eq_true]
 have h5:(eqGuard .eql t x y (.string a) (.string b)).run P w= .ok () w:=rfl
 show (do let v←(do eqGuard .eql t x y (ρ x) (ρ y);binOp .eql t (ρ x) (ρ y):Sem Value);pure (Next.value v):Sem Next).run P w=_
 rw [h,h',Sem.run_bind,Sem.run_bind,h5,Result.andThen_ok,h4]
 rfl
theorem WH {t u:TypeId} {x y:Operand} {a b:ByteArray} (hg:gOk ops σ.s gd) (hd:dB X.n dst=true) (hx:evC σ.s x= .one (.v (.string a))) (hy:evC σ.s y= .one (.v (.string b))) (hc:a=b) (hl:Ag P X ops l (σ.app dst ⟨.one (.v (.bool true)),[],[],[]⟩) (fun es σ'=>K (⟨.one (.v (.bool true)),[],[],[]⟩::es) σ')):
  Ag P X ops (⟨dst,.binOp .eql t x y u,ty,pos,af,gd⟩::l) σ K:=BR (o:=⟨dst,.binOp .eql t x y u,ty,pos,af,gd⟩) hg hd (RC hx hy hc) hl
theorem Wz {t u:TypeId} {x y:Operand} {a b:ByteArray} (hg:gOk ops σ.s gd:=by first|exact trivial|exact rfl) (hd:dB X.n dst=true:=by exact rfl) (hx:evC σ.s x= .one (.v (.string a)):=by exact rfl) (hy:evC σ.s y= .one (.v (.string b)):=by exact rfl) (hc:a=b:=by exact rfl) (hl:Ag P X ops l (σ.app dst ⟨.one (.v (.bool true)),[],[],[]⟩) (fun es σ'=>K (⟨.one (.v (.bool true)),[],[],[]⟩::es) σ')):
  Ag P X ops (⟨dst,.binOp .eql t x y u,ty,pos,af,gd⟩::l) σ K:=WH hg hd hx hy hc hl
end
theorem LE {j:Nat} {x:Rat} {s:ByteArray} (hj:j≤100000) (h:(PT x).toArray=s.data):Ctr Tryz.prog Amb 49 [nm j x] (.one (.v (.string s))):=by
 have:=WV (x:=x) hj
 rw [h] at this
 exact this
attribute [local go_sem] Oper.semAt_some
set_option linter.unusedVariables false
set_option linter.unusedSimpArgs false
set_option maxRecDepth 100000
set_option maxHeartbeats 4000000
section
variable {P:Program} {X:Ctx} {ops l:List Oper} {σ:St} {K:List Eff→St→Prop} {dst:Option Tmp} {ty:TypeId} {pos:String} {af:Array Edge}
theorem FI {op:Op} {g:Nat} {want:Bool} (hg:Gu ops σ.s g= .one (.v undef)) (hl:Ag P X ops l (σ.app dst En) (fun es σ'=>K (En::es) σ')):Ag P X ops (⟨dst,op,ty,pos,af,some (g,want)⟩::l) σ K:=
 .of (fun _ _ hl=>by
  refine .cons (e:=En) ?_ (fun p hp=>by cases hp) B8 hl
  have h:=hg
  unfold Gu at h
  split at h
  ·rename_i o ho
   split at h
   ·rename_i d hd
    exact ⟨o,ho,d,hd,.inr (.inr ⟨h,rfl⟩)⟩
   ·cases h
  ·cases h) hl
end
theorem LZ {V w1:World} {g:Nat} {vs:Array Value} {T:TypeId} (hA:Amb V) (hF:Fr V w1) (hB:w1.heap[g]?=some (.cells vs T (0,0))) (hn: ¬alive V g):
  ∃V',Amb V'∧Fr V' w1∧Ext V V'∧(∀q,alive V' q→q=g∨alive V q)∧V'.heap[g]?=some (.cells vs T (0,0)):=by
 refine ⟨frz V g (.cells vs T (0,0)),MonoA.up hA (Hc _ hn),fun q hq=>?_,Hc _ hn,fun q hq=>Eh hq,JH _ _ _⟩
 rcases Eh hq with rfl|h
 ·rw [hB,JH]
 ·rw [hF q h];exact ((Hc _ hn) q h).symm
theorem T9 {V w1:World} {g:Nat} {v:Value} {T:TypeId} {d:D} (h:V.heap[g]?=some (.cells #[v] T (0,0))) (hv:noL v) (hd:dd V w1 v d):cv V (fun _=>(0,0)) (fun _=>0) w1 (.pointer (some ⟨g,0,none⟩)) (.one (.fp [d])):=by
 have hc:V.cell? ⟨g,0,none⟩=some v:=by
  unfold World.cell?
  rw [h]
  rfl
 refine ⟨g,0,rfl,by simp,?_⟩
 unfold ddL
 exact ⟨⟨v,hc,hv,hd⟩,by unfold ddL;trivial⟩
theorem Oz {l:List Rat} {j:Nat} (hl:l.length≤1000000) {D:Nat→Prop} {w0 V:World} (hD: ∀g,D g→g<w0.heap.size) (hN:NoU D w0) (hA:Amb V) (hF:Fr V w0) (hal: ∀g,alive V g→ ¬D g) {pv:Value} (hpv:cv V (fun _=>(0,0)) (fun _=>0) w0 pv (.one (D9 j l))) (n:Nat):
  SeqStopsK Fence.wide n Tryz.prog 100 #[pv] (Xd l) (KpC D) (fun xs=>xs=FM l) (fun pre=>pre<+:FM l) (FM l).length w0:=fun l' J Jx W hW hJ hJx hY h0=>by
 have kk:=KpC.of_below hW hD
 exact callsIn_wide.2 (Se hl hA hal (fun g h=>Nat.lt_of_lt_of_le (hD g h) kk.size) (kk.row hN) (kk.fr hF hal) (hpv.mono (kk.kl hN) fun i hi=>absurd rfl hi) hJ hY h0)
attribute [local go_sem] Oper.semAt_some
set_option linter.unusedVariables false
set_option linter.unusedSimpArgs false
set_option maxRecDepth 100000
set_option maxHeartbeats 4000000
def Gn (l:List Rat) (t:Rat) (x:Rn l):Prop:=x.1.2=l.length∨t<l.getD x.1.1 0
instance (l:List Rat) (t:Rat) (x:Rn l):Decidable (Gn l t x):=inferInstanceAs (Decidable (_∨_))
def ivA (l:List Rat) (t:Rat):List (Rn l)→Int→Int
 | [],i=>i
 | x::xs,i=>if Gn l t x then i else ivA l t xs ((x.1.2-1:Nat):Int)
def NF {l:List Rat} :List (Rn l)→Int→Int
 | [],i=>i
 | x::xs,i=>NF xs ((x.1.2-1:Nat):Int)
theorem NE {l:List Rat} {x:Rn l} : ∀ {q:List (Rn l)} {i:Int},NF (q++ [x]) i=((x.1.2-1:Nat):Int)
 | [],_=>rfl
 | _::q,_=>NE (q:=q)
theorem Pp {l:List Rat} {t:Rat} {r:List (Rn l)} : ∀ {q:List (Rn l)} {i:Int},(∀y∈q,¬Gn l t y)→ivA l t (q++r) i=ivA l t r (NF q i)
 | [],_,_=>rfl
 | x::q,i,h=>by
   show (if Gn l t x then i else ivA l t (q++r) _)=_
   rw [if_neg (h x List.mem_cons_self),Pp (q:=q) fun y hy=>h y (List.mem_cons_of_mem _ hy)]
   rfl
def ivI (l:List Rat) (t:Rat):Int:=ivA l t (FM l) (-1)
theorem VC {l:List Rat} {t:Rat} {q r:List (Rn l)} {y:Rn l} (h:q++ [y]++r=FM l) (hq: ∀z∈q,¬Gn l t z) (hy:Gn l t y):ivI l t=NF q (-1):=by
 unfold ivI
 rw [←h,List.append_assoc,Pp hq]
 show (if Gn l t y then _ else _)=_
 rw [if_pos hy]
theorem VD {l:List Rat} {t:Rat} (hq: ∀z∈FM l,¬Gn l t z):ivI l t=NF (FM l) (-1):=by
 unfold ivI
 have:=Pp (r:= []) (i:= -1) hq
 rw [List.append_nil] at this
 rw [this]
 rfl
theorem VH {V w1:World} {g:Nat} {a b c:Value} {T:TypeId} {d e f:D} (h:V.heap[g]?=some (.cells #[a,b,c] T (0,0))) (ha:noL a) (hb:noL b) (hc:noL c) (hd:dd V w1 a d) (he:dd V w1 b e) (hf:dd V w1 c f):cv V (fun _=>(0,0)) (fun _=>0) w1 (.pointer (some ⟨g,0,none⟩)) (.one (.fp [d,e,f])):=by
 have c0:V.cell? ⟨g,0,none⟩=some a:=by unfold World.cell?;rw [h];rfl
 have c1:V.cell? ⟨g,1,none⟩=some b:=by unfold World.cell?;rw [h];rfl
 have c2:V.cell? ⟨g,2,none⟩=some c:=by unfold World.cell?;rw [h];rfl
 refine ⟨g,0,rfl,by simp,?_⟩
 unfold ddL ddL ddL
 exact ⟨⟨a,c0,ha,hd⟩,⟨b,c1,hb,he⟩,⟨c,c2,hc,hf⟩,by unfold ddL;trivial⟩
theorem Kd.frV {g:Nat} {V w1 W:World} (h:Kd (fun x=>x=g) w1 W) (hV:Fr V w1) (hna: ¬alive V g):Fr V W:=fun q hq=>by
 have h2:=hV q hq
 obtain ⟨c,e,fz,h3,h4⟩:=hq
 rw [←h2]
 exact h.block q (Array.getElem?_eq_some_iff.1 (h2.trans h3)).1 fun e=>hna (e▸⟨c,_,fz,h3,h4⟩)
theorem Kd.klV {g:Nat} {w1 W:World} {v:Value} {T:TypeId} (h:Kd (fun x=>x=g) w1 W) (hgb:w1.heap[g]?=some (.cells #[v] T (0,0))) (hv:noL v):Kl w1 W:=⟨h.size,fun q c e fz hq hu=>h.block q (Array.getElem?_eq_some_iff.1 hq).1 fun eq=>by
 subst eq
 rw [hgb] at hq
 cases hq
 obtain ⟨i,m,hi⟩:=hu
 have hi0:i=0:=by
  have:=(Array.getElem?_eq_some_iff.1 hi).1
  simpa using this
 subst hi0
 have:v= .int .u32 m:=by simpa using hi
 exact hv.1 m this⟩
theorem L4 {x y:Rat} :C4 x y>0↔y<x:=by
 unfold C4
 constructor
 ·intro h
  split at h
  ·exact absurd h (by decide)
  ·split at h
   ·assumption
   ·exact absurd h (by decide)
 ·intro h
  rw [if_neg (Rat.not_lt.2 (Rat.le_of_lt h)),if_pos h]
  decide
def ivR (l:List Rat) (t:Rat):List AV:=if ivI l t<0∨FT l<t then [Aj 0,Aj 7] else [Aj (ivI l t),Aj 0]
theorem ND {l:List Rat} {j jt:Nat} {t:Rat} {p:Int} (hl:l.length≤1000000) (hne:0<l.length) (hj:j≤1000000) (hjt:jt≤1000000) {W0 w:World} (hA:Amb W0) (hF:Fr W0 w) {ao:Option Addr} {cap:Nat} (hd:dd W0 w (.slice ao l.length cap) (.lst 3 l.length (l.flatMap (nmD j)))) {ta tb tc:Value} (hta:dd W0 w ta (.q t jt 0)) (htb:dd W0 w tb (.q t jt 1)) (htc:dd W0 w tc (.q t jt 2)) (na:noL ta) (nb:noL tb) (nc:noL tc):
  CallsIn Fence.wide 6 Tryz.prog 20 #[.slice ao l.length cap,.int .i64 p,.agg #[ta,tb,tc]] w fun e W'=>(∃a b:Int,ivR l t= [Aj a,Aj b]∧e= .returned (.tuple #[.int .i64 a,.int .i64 b]))∧Below w.heap.size w W':=by
 refine callsIn_of_wp_marks Tryz.func20 rfl trivial ?_ rfl
 simp only [Tryz.ntmps20,List.size_toArray,List.length_cons,List.length_nil,Nat.reduceAdd,Nat.reduceSub,Array.replicate_succ,Array.replicate_zero,List.push_toArray,List.append_toArray,List.nil_append,List.cons_append]
 have hf1:Fence.wide.fn 59:=trivial
 have h1:1≤6:=by decide
 gi_wp2_with (gi_at_call 59;refine (WT _ _ _ _ _).mono ?_;rintro e w' ⟨rfl,rfl⟩)
 rename_i Q' K hK
 obtain ⟨w1,hw1⟩: ∃w1,w1=((((w.alloc (.cells #[.slice ao l.length cap] 25)).alloc (.cells #[ta,tb,tc] 33)).alloc (.cells #[.int .i64 (-1)] 3)).alloc (.cells #[.slice ao l.length cap] 25)):=⟨_,rfl⟩
 have hB0:Below w.heap.size w w1:=by rw [hw1];exact ((((Below.refl _ w).alloc (Nat.le_refl _) _).alloc (by simp) _).alloc (by simp;omega) _).alloc (by simp;omega) _
 have hs1:w1.heap.size=w.heap.size+1+1+1+1:=by rw [hw1];simp
 have hbx:w1.heap[w.heap.size+1+1+1]?=some (.cells #[.slice ao l.length cap] 25 (0,0)):=by
  rw [hw1]
  have:=World.alloc_heap_new (((w.alloc (.cells #[.slice ao l.length cap] 25)).alloc (.cells #[ta,tb,tc] 33)).alloc (.cells #[.int .i64 (-1)] 3)) (.cells #[.slice ao l.length cap] 25)
  simpa using this
 have hg2:w1.heap[w.heap.size+1+1]?=some (.cells #[.int .i64 (-1)] 3 (0,0)):=by
  rw [hw1]
  have:=World.alloc_heap_new ((w.alloc (.cells #[.slice ao l.length cap] 25)).alloc (.cells #[ta,tb,tc] 33)) (.cells #[.int .i64 (-1)] 3)
  rw [Below.heap_alloc _ _ _ (by simp)]
  simpa using this
 have hg0:w1.heap[w.heap.size]?=some (.cells #[.slice ao l.length cap] 25 (0,0)):=by
  rw [hw1,Below.heap_alloc _ _ _ (by simp<;>omega),Below.heap_alloc _ _ _ (by simp<;>omega),Below.heap_alloc _ _ _ (by simp)]
  exact World.alloc_heap_new w _
 have hg1:w1.heap[w.heap.size+1]?=some (.cells #[ta,tb,tc] 33 (0,0)):=by
  rw [hw1,Below.heap_alloc _ _ _ (by simp<;>omega),Below.heap_alloc _ _ _ (by simp)]
  have:=World.alloc_heap_new (w.alloc (.cells #[.slice ao l.length cap] 25)) (.cells #[ta,tb,tc] 33)
  simpa using this
 rw [←hw1]
 clear hw1
 have hkl:Kl w w1:=⟨hB0.size,fun g c e fz hg _=>hB0.block g (Array.getElem?_eq_some_iff.1 hg).1⟩
 have hlt0: ∀g,alive W0 g→g<w.heap.size:=fun g hg=>by
  have h:=hF _ hg
  obtain ⟨c,e,fz,h1,h2⟩:=hg
  exact (Array.getElem?_eq_some_iff.1 (h.trans h1)).1
 have hF1:Fr W0 w1:=fun g hg=>by
  rw [←hF g hg]
  exact hB0.block g (hlt0 g hg)
 obtain ⟨V1,hA1,hF2,he1,hal1,hc1⟩:=LZ hA hF1 hg0 fun h=>by have:=hlt0 _ h;omega
 have hn2: ¬alive V1 (w.heap.size+1):=fun h=>by
  rcases hal1 _ h with h|h
  ·omega
  ·have:=hlt0 _ h;omega
 obtain ⟨V2,hA2,hF3,he2,hal2,hc2⟩:=LZ hA1 hF2 hg1 hn2
 have hn3: ¬alive V2 (w.heap.size+1+1+1):=fun h=>by
  rcases hal2 _ h with h|h
  ·omega
  ·rcases hal1 _ h with h|h
   ·omega
   ·have:=hlt0 _ h;omega
 obtain ⟨V,hAV,hFV,he3,hal3,hc3⟩:=LZ hA2 hF3 hbx hn3
 have halV: ∀g,alive V g→g≠w.heap.size+1+1:=fun g h=>by
  rcases hal3 _ h with h|h
  ·omega
  ·rcases hal2 _ h with h|h
   ·omega
   ·rcases hal1 _ h with h|h
    ·omega
    ·have:=hlt0 _ h;omega
 have heV:Ext W0 V:=(he1.trans he2).trans he3
 have hsl:noL (Value.slice ao l.length cap):=⟨fun n e=>(by cases e),rfl⟩
 have hcell1:V.heap[w.heap.size]?=some (.cells #[.slice ao l.length cap] 25 (0,0)):=by
  have ha:alive V1 w.heap.size:=⟨_,_,_,hc1,by simp⟩
  rw [he3 _ (he2.alive ha),he2 _ ha]
  exact hc1
 have hcell2:V.heap[w.heap.size+1]?=some (.cells #[ta,tb,tc] 33 (0,0)):=by
  have ha:alive V2 (w.heap.size+1):=⟨_,_,_,hc2,by simp⟩
  rw [he3 _ ha]
  exact hc2
 have hp2:cv V (fun _=>(0,0)) (fun _=>0) w1 (.pointer (some ⟨w.heap.size,0,none⟩)) (.one (D9 j l)):=T9 hcell1 hsl (dd.mono heV hkl hd)
 have hp3:cv V (fun _=>(0,0)) (fun _=>0) w1 (.pointer (some ⟨w.heap.size+1,0,none⟩)) (.one (.fp [.q t jt 0,.q t jt 1,.q t jt 2])):=VH hcell2 na nb nc (dd.mono heV hkl hta) (dd.mono heV hkl htb) (dd.mono heV hkl htc)
 have hpr:cv V (fun _=>(0,0)) (fun _=>0) w1 (.pointer (some ⟨w.heap.size+1+1+1,0,none⟩)) (.one (D9 j l)):=T9 hc3 hsl (dd.mono heV hkl hd)
 have hseq:=Oz (D:=fun x=>x=w.heap.size+1+1) hl (fun g hg=>by omega) (fun k c e fz hk hh i n hi=>by
  subst hk
  rw [hg2] at hh
  cases hh
  have hi0:i=0:=by
   have:=(Array.getElem?_eq_some_iff.1 hi).1
   simpa using this
  subst hi0
  cases hi) hAV hFV halV hpr 5
 have fin: ∀(D:Nat) (W:World) (e:TypeId) (I:Int),w1.heap.size≤D→I=ivI l t→W.heap[w.heap.size+1+1]?=some (.cells #[.int .i64 I] e (0,0))→Kd (fun x=>x=w.heap.size+1+1) w1 W→W.heap[D]?=some (.deferred (some []))→
   K { tmps:= #[.slice ao l.length cap,.int .i64 p,.agg #[ta,tb,tc],.pointer (some ⟨w.heap.size,0,none⟩),undef,.pointer (some ⟨w.heap.size+1,0,none⟩),.int .i64 0,.int .i64 0,.pointer (some ⟨w.heap.size+1+1,0,none⟩),undef,undef,.slice ao l.length cap,.func (.func 100) #[] #[.pointer (some ⟨w.heap.size+1+1+1,0,none⟩)],undef,undef,undef,undef,undef,undef,undef,undef,undef,undef,undef,undef,undef,undef,undef,undef,undef,undef,undef,undef,undef,undef,undef,undef,undef,undef,undef,undef,undef,undef,undef],defers:= [{ target:= .collected D,args:= #[] }] } W:=fun D W e I hD hI he hk hKD=>by
  have hB:Below w.heap.size w W:=⟨hk.os.trans hB0.os,hk.tape.trans hB0.tape,hk.output.trans hB0.output,Nat.le_trans hB0.size hk.size,fun k hlt=>(hk.block k (by omega) (by omega)).trans (hB0.block k hlt)⟩
  refine hK _ _ ?_
  have hna: ¬alive V (w.heap.size+1+1):=fun h=>halV _ h rfl
  have hFW:Fr V W:=hk.frV hFV hna
  have hkW:Kl w1 W:=hk.klV hg2 ⟨fun n e=>(by cases e),rfl⟩
  have hcn:CN (XB V W (w.heap.size+1+1) 8 44) (stL [(3,.one (D9 j l)),(5,.one (.fp [.q t jt 0,.q t jt 1,.q t jt 2])),(8,.one (.ptr 8 0))] [(8,[.v (.int .i64 I)])]) { tmps:= #[.slice ao l.length cap,.int .i64 p,.agg #[ta,tb,tc],.pointer (some ⟨w.heap.size,0,none⟩),undef,.pointer (some ⟨w.heap.size+1,0,none⟩),.int .i64 0,.int .i64 0,.pointer (some ⟨w.heap.size+1+1,0,none⟩),undef,undef,.slice ao l.length cap,.func (.func 100) #[] #[.pointer (some ⟨w.heap.size+1+1+1,0,none⟩)],undef,undef,undef,undef,undef,undef,undef,undef,undef,undef,undef,undef,undef,undef,undef,undef,undef,undef,undef,undef,undef,undef,undef,undef,undef,undef,undef,undef,undef,undef,undef],defers:= [] } W:=
   Uu hFW (Kd.refl _ _) rfl rfl he ⟨fun n e=>(by cases e),rfl⟩ hna (List.forall_mem_cons.2 ⟨hp2.mono hkW fun i hi=>absurd rfl hi,List.forall_mem_cons.2 ⟨hp3.mono hkW fun i hi=>absurd rfl hi,List.forall_mem_cons.2 ⟨⟨rfl,Nat.one_ne_zero⟩,AR⟩⟩⟩)
  refine wpIn_mono (Q:=Wg [{ target:= .collected D,args:= #[] }] (XB V W (w.heap.size+1+1) 8 44) fun e σ'=>e= .ret∧ ∃a b:Int,ivR l t= [Aj a,Aj b]∧Wk (XB V W (w.heap.size+1+1) 8 44) σ' [(6,Aj a),(7,Aj b)] [(8,[.v (.int .i64 I)])]) ?_ ?_
  ·refine (show Awf Tryz.prog none 6 [{ target:= .collected D,args:= #[] }] (XB V W (w.heap.size+1+1) 8 44) _ (stL [(3,.one (D9 j l)),(5,.one (.fp [.q t jt 0,.q t jt 1,.q t jt 2])),(8,.one (.ptr 8 0))] [(8,[.v (.int .i64 I)])]) _ from ?_) _ W hcn
   have hA:=hAV
   by_cases hI0:I<0
   ·have b1:=BO (k:= .i64) (decide_eq_true hI0)
    repeat (first
     | refine Il ?_|refine Ff ?_|refine Fd rfl ?_|refine Fe rfl ?_
     | ((first|refine Ej (by kernel_rfl) ?_|refine Fc (by kernel_rfl) (by kernel_rfl) (by kernel_rfl) ?_)
        repeat (first
         | refine A8 (hl:=?_)
         | refine An (hl:=?_)
         | refine Ai (hl:=?_)
         | refine Az (hl:=?_)
         | refine Ao (hl:=?_)
         | refine Da (hl:=?_)
         | refine At (hl:=?_)
         | refine AC (hl:=?_)
         | refine Ak (hl:=?_)
         | refine AM (hl:=?_)
         | refine AN (hl:=?_)
         | refine AL (hl:=?_)
         | refine AJ (hl:=?_)
         | refine AI (hl:=?_)
         | refine AK (hl:=?_)
         | refine AH (hl:=?_)
         | refine Ar (hl:=?_))
        apply Ag.nil;try refine And.intro (by kernel_rfl) ?_)
     | refine Gl ?_|refine Gm ?_)
    refine PI (And.intro rfl (Exists.intro 0 (Exists.intro 7 (And.intro (by unfold ivR;rw [if_pos (.inl (hI▸hI0))]) ?_))))
    exact BH
   ·have b1:=BO (k:= .i64) (decide_eq_false hI0)
    have s1:=BB (k:= .i64) (show (IntKind.i64).wrap ((l.length:Int)-1)=((l.length-1:Nat):Int) by rw [show ((l.length:Int)-1)=((l.length-1:Nat):Int) by omega];exact IntWalk.i64_in _ (by omega))
    have hx:l[((l.length-1:Nat):Int).toNat]?=some (FT l):=by
     obtain ⟨x,h1,h2⟩:=BC (l:=l) (i:=l.length-1) (by omega)
     rw [h1]
     unfold FT
     rw [AS h2]
    have C1:=Qz (j:=j) (k:=jt) (x:=FT l) (y:=t) (by omega) (by omega)
    by_cases h3:FT l<t
    ·have b3:=BO (k:= .i64) (decide_eq_true (show C4 (FT l) t<0 from Int.not_le.1 fun hh=>Fy.1 hh h3))
     repeat (first
      | refine Il ?_|refine Ff ?_|refine Fd rfl ?_|refine Fe rfl ?_
      | ((first|refine Ej (by kernel_rfl) ?_|refine Fc (by kernel_rfl) (by kernel_rfl) (by kernel_rfl) ?_)
         repeat (first
          | refine A8 (hl:=?_)
          | refine An (hl:=?_)
          | refine Ai (hl:=?_)
          | refine Az (hl:=?_)
          | refine Ao (hl:=?_)
          | refine Da (hl:=?_)
          | refine At (hl:=?_)
          | refine AC (hl:=?_)
          | refine Ak (hl:=?_)
          | refine AM (hl:=?_)
          | refine AN (hl:=?_)
          | refine AL (hl:=?_)
          | refine AJ (hl:=?_)
          | refine AI (hl:=?_)
          | refine AK (hl:=?_)
          | refine AH (hl:=?_)
          | refine Ar (hl:=?_)
          | refine Ap hA (hc:=C1) (hl:=?_)
          | refine C9 hx (by omega) (hl:=?_))
         apply Ag.nil;try refine And.intro (by kernel_rfl) ?_)
      | refine Gl ?_|refine Gm ?_)
     refine PI (And.intro rfl (Exists.intro 0 (Exists.intro 7 (And.intro (by unfold ivR;rw [if_pos (.inr h3)]) ?_))))
     exact BH
    ·have hnot: ¬(ivI l t<0∨FT l<t):=fun h=>by
      rcases h with h|h
      ·exact hI0 (hI▸h)
      ·exact h3 h
     have hr:ivR l t= [Aj I,Aj 0]:=by unfold ivR;rw [if_neg hnot,hI]
     have b3:=BO (k:= .i64) (decide_eq_false (show ¬C4 (FT l) t<0 from Int.not_lt.2 (Fy.2 h3)))
     repeat (first
      | refine Il ?_|refine Ff ?_|refine Fd rfl ?_|refine Fe rfl ?_
      | ((first|refine Ej (by kernel_rfl) ?_|refine Fc (by kernel_rfl) (by kernel_rfl) (by kernel_rfl) ?_)
         repeat (first
          | refine A8 (hl:=?_)
          | refine An (hl:=?_)
          | refine Ai (hl:=?_)
          | refine Az (hl:=?_)
          | refine Ao (hl:=?_)
          | refine Da (hl:=?_)
          | refine At (hl:=?_)
          | refine AC (hl:=?_)
          | refine Ak (hl:=?_)
          | refine AM (hl:=?_)
          | refine AN (hl:=?_)
          | refine AL (hl:=?_)
          | refine AJ (hl:=?_)
          | refine AI (hl:=?_)
          | refine AK (hl:=?_)
          | refine AH (hl:=?_)
          | refine Ar (hl:=?_)
          | refine Ap hA (hc:=C1) (hl:=?_)
          | refine C9 hx (by omega) (hl:=?_))
         apply Ag.nil;try refine And.intro (by kernel_rfl) ?_)
      | refine Gl ?_|refine Gm ?_)
     refine PI (And.intro rfl (Exists.intro I (Exists.intro 0 (And.intro hr ?_))))
     exact BH
  ·rintro ex a' w' ⟨a0,σ',rfl,⟨rfl,a,b,hab,hw⟩,hc⟩
   obtain ⟨W1,hg,μ,hcn'⟩:=hw.cn hc
   have hDlt:D<W.heap.size:=(Array.getElem?_eq_some_iff.1 hKD).1
   have hDne:D≠w.heap.size+1+1:=fun e=>by omega
   have hKD':w'.heap[D]?=some (.deferred (some [])):=(hcn'.kd.block D hDlt hDne).trans hKD
   have hB':Below w.heap.size w w':=⟨hcn'.kd.os.trans hB.os,hcn'.kd.tape.trans hB.tape,hcn'.kd.output.trans hB.output,Nat.le_trans hB.size hcn'.kd.size,fun k hlt=>(hcn'.kd.block k (Nat.lt_of_lt_of_le hlt hB.size) (by omega)).trans (hB.block k hlt)⟩
   have h6:a0.tmps.getD 6 undef= .int .i64 a:=hcn'.slot 6
   have h7:a0.tmps.getD 7 undef= .int .i64 b:=hcn'.slot 7
   refine ⟨by simp [wd],.inl ⟨_,_,rfl,run_takeDeferred hKD',?_⟩⟩
   refine ⟨.tuple #[.int .i64 a,.int .i64 b],?_,⟨a,b,hab,rfl⟩,hB'.trans (belowK_b (w:=w) (Yh _) w' D _ _ (by omega) hKD' rfl rfl)⟩
   rw [Array.getD_eq_getD_getElem?] at h6 h7
   simp [results,Tryz.f20,go_sem,wd,h6,h7]
 refine WU (G:=fun pre=> ∀y∈pre,¬Gn l t y) (val:=fun pre=> .int .i64 (NF pre (-1))) (Jm:=fun c pre v=>c= .exit 0∧ ∃q y,pre=q++ [y]∧Gn l t y∧(∀z∈q,¬Gn l t z)∧v= .int .i64 (NF q (-1))) (k0:=8) (N:=44) (V:=V) (gb:=w.heap.size+1+1)
  (ssx:=fun x=> [(3,.one (D9 j l)),(5,.one (.fp [.q t jt 0,.q t jt 1,.q t jt 2])),(8,.one (.ptr 8 0)),(9,Aj (x.1.1:Nat)),(10,Aj (x.1.2:Nat))])
  (a₁:=fun x=> { tmps:= #[.slice ao l.length cap,.int .i64 p,.agg #[ta,tb,tc],.pointer (some ⟨w.heap.size,0,none⟩),undef,.pointer (some ⟨w.heap.size+1,0,none⟩),.int .i64 0,.int .i64 0,.pointer (some ⟨w.heap.size+1+1,0,none⟩),.int .i64 (x.1.1:Nat),.int .i64 (x.1.2:Nat),.slice ao l.length cap,.func (.func 100) #[] #[.pointer (some ⟨w.heap.size+1+1+1,0,none⟩)],.int .i64 (x.1.1:Nat),.int .i64 (x.1.2:Nat),undef,undef,undef,undef,undef,undef,undef,undef,undef,undef,undef,undef,undef,undef,undef,undef,undef,undef,undef,undef,undef,undef,undef,undef,undef,undef,undef,undef,undef],defers:= [] })
  h1 rfl (enters_of Tryz.func100 (by kernel_rfl) rfl) hseq (fun _=>rfl) hFV hg2 (fun h=>halV _ h rfl) (fun _=>⟨fun n e=>(by cases e),rfl⟩) ?assign ?slots (fun y hy=>by cases hy) ?body ?done ?stop
 case assign=>
  intro l x W K hK
  gi_wp2
  exact hK
 case slots=>
  intro x
  refine ⟨rfl,rfl,fun W sz hFW hkW hz=>?_⟩
  exact List.forall_mem_cons.2 ⟨hp2.mono hkW fun i hi=>absurd rfl hi,List.forall_mem_cons.2 ⟨hp3.mono hkW fun i hi=>absurd rfl hi,List.forall_mem_cons.2 ⟨⟨rfl,hz⟩,List.forall_mem_cons.2 ⟨rfl,List.forall_mem_cons.2 ⟨rfl,AR⟩⟩⟩⟩⟩
 case body=>
  rintro l' pre ⟨⟨x1,x2⟩,hx12,hx2⟩ W hG
  have hGn: ¬Gn l t ⟨(x1,x2),hx12,hx2⟩→ ∀y∈pre++ [⟨(x1,x2),hx12,hx2⟩],¬Gn l t y:=fun h y hy=>by
   rcases List.mem_append.1 hy with h2|h2
   ·exact hG y h2
   ·rw [List.mem_singleton.1 h2];exact h
  have s1:=BB (k:= .i64) (show (IntKind.i64).wrap ((x2:Int)-1)=((x2-1:Nat):Int) by rw [show ((x2:Int)-1)=((x2-1:Nat):Int) by omega];exact IntWalk.i64_in _ (by omega))
  obtain ⟨x,hx,hx'⟩:=BC (l:=l) (i:=x1) (by omega)
  have hxd:l.getD x1 0=x:=AS hx'
  have C1:=Qz (j:=j) (k:=jt) (x:=x) (y:=t) (by omega) (by omega)
  have hA:=hAV
  rw [NE]
  obtain ⟨I0,hI0⟩: ∃I0,I0=NF pre (-1):=⟨_,rfl⟩
  rw [←hI0]
  by_cases h0:x2=l.length
  ·have b1:=CJ (k:= .i64) (decide_eq_true (show ((x2:Nat):Int)=((l.length:Nat):Int) by omega))
   repeat (first
    | refine Il ?_|refine Ff ?_|refine Fd rfl ?_|refine Fe rfl ?_
    | ((first|refine Ej (by kernel_rfl) ?_|refine Fc (by kernel_rfl) (by kernel_rfl) (by kernel_rfl) ?_)
       repeat (first
        | refine A8 (hl:=?_)
        | refine An (hl:=?_)
        | refine Ai (hl:=?_)
        | refine Az (hl:=?_)
        | refine Ao (hl:=?_)
        | refine Da (hl:=?_)
        | refine At (hl:=?_)
        | refine AC (hl:=?_)
        | refine Ak (hl:=?_)
        | refine AM (hl:=?_)
        | refine AN (hl:=?_)
        | refine AL (hl:=?_)
        | refine AJ (hl:=?_)
        | refine AI (hl:=?_)
        | refine AK (hl:=?_)
        | refine AH (hl:=?_)
        | refine Ar (hl:=?_))
       apply Ag.nil;try refine And.intro (by kernel_rfl) ?_)
    | refine Gl ?_|refine Gm ?_)
   refine Exists.intro (Value.int .i64 I0) (And.intro (And.intro rfl (Exists.intro pre (Exists.intro _ (And.intro rfl (And.intro (.inl h0) (And.intro hG (by rw [hI0]))))))) ?_)
   exact BH
  ·have b1:=CJ (k:= .i64) (decide_eq_false (show ¬((x2:Nat):Int)=((l.length:Nat):Int) by omega))
   by_cases h3:t<x
   ·have b3:=D4 (k:= .i64) (decide_eq_true (show C4 x t>0 from L4.2 h3))
    repeat (first
     | refine Il ?_|refine Ff ?_|refine Fd rfl ?_|refine Fe rfl ?_
     | ((first|refine Ej (by kernel_rfl) ?_|refine Fc (by kernel_rfl) (by kernel_rfl) (by kernel_rfl) ?_)
        repeat (first
         | refine A8 (hl:=?_)
         | refine An (hl:=?_)
         | refine Ai (hl:=?_)
         | refine Az (hl:=?_)
         | refine Ao (hl:=?_)
         | refine Da (hl:=?_)
         | refine At (hl:=?_)
         | refine AC (hl:=?_)
         | refine Ak (hl:=?_)
         | refine AM (hl:=?_)
         | refine AN (hl:=?_)
         | refine AL (hl:=?_)
         | refine AJ (hl:=?_)
         | refine AI (hl:=?_)
         | refine AK (hl:=?_)
         | refine AH (hl:=?_)
         | refine Ar (hl:=?_)
         | refine Ap hA (hc:=C1) (hl:=?_)
         | refine C9 hx (by omega) (hl:=?_))
        apply Ag.nil;try refine And.intro (by kernel_rfl) ?_)
     | refine Gl ?_|refine Gm ?_)
    refine Exists.intro (Value.int .i64 I0) (And.intro (And.intro rfl (Exists.intro pre (Exists.intro _ (And.intro rfl (And.intro (.inr (by rw [hxd];exact h3)) (And.intro hG (by rw [hI0]))))))) ?_)
    exact BH
   ·have b3:=D4 (k:= .i64) (decide_eq_false (show ¬C4 x t>0 from fun h=>h3 (L4.1 h)))
    repeat (first
     | refine Il ?_|refine Ff ?_|refine Fd rfl ?_|refine Fe rfl ?_
     | ((first|refine Ej (by kernel_rfl) ?_|refine Fc (by kernel_rfl) (by kernel_rfl) (by kernel_rfl) ?_)
        repeat (first
         | refine A8 (hl:=?_)
         | refine An (hl:=?_)
         | refine Ai (hl:=?_)
         | refine Az (hl:=?_)
         | refine Ao (hl:=?_)
         | refine Da (hl:=?_)
         | refine At (hl:=?_)
         | refine AC (hl:=?_)
         | refine Ak (hl:=?_)
         | refine AM (hl:=?_)
         | refine AN (hl:=?_)
         | refine AL (hl:=?_)
         | refine AJ (hl:=?_)
         | refine AI (hl:=?_)
         | refine AK (hl:=?_)
         | refine AH (hl:=?_)
         | refine Ar (hl:=?_)
         | refine Ap hA (hc:=C1) (hl:=?_)
         | refine C9 hx (by omega) (hl:=?_))
        apply Ag.nil;try refine And.intro (by kernel_rfl) ?_)
     | refine Gl ?_|refine Gm ?_)
    refine And.intro (hGn fun h=>?_) ?_
    ·rcases h with h|h
     ·exact h0 h
     ·exact h3 (by rw [←hxd];exact h)
    exact BH
 case done=>
  rintro D ys W e hD rfl hne he hk hKD
  exact fin D W e _ hD (VD hne).symm he hk hKD
 case stop=>
  rintro D c pre v W e hD ⟨r,hpre⟩ ⟨rfl,q,y,rfl,hy,hq,rfl⟩ _ he hk hKD
  exact wpIn_exit (fin D W e _ hD (VC hpre hq hy).symm he hk hKD)
theorem I9 {l:List Rat} {j jt:Nat} {t:Rat} {p:Int} (hl:l.length≤1000000) (hne:0<l.length) (hj:j≤1000000) (hjt:jt≤1000000):Ctr Tryz.prog Amb 20 [.one (Ax j l),.one (.v (.int .i64 p)),nm jt t] (.tup (ivR l t)):=by
 intro W0 w μ sz vs hA hF hb hi hv
 obtain ⟨v0,v1,v2,rfl⟩: ∃v0 v1 v2,vs= [v0,v1,v2]:=by
  match vs,hv.1 with
  | [a,b,c],_=>exact ⟨a,b,c,rfl⟩
 have d0:dd W0 w v0 (.lst 3 l.length (l.flatMap (nmD j))):=hv.2 0 v0 _ rfl rfl
 have e1:v1= .int .i64 p:=hv.2 1 v1 _ rfl rfl
 have d2:cv W0 μ sz w v2 (nm jt t):=hv.2 2 v2 _ rfl rfl
 subst e1
 obtain ⟨ao,cap,rfl⟩: ∃ao cap,v0= .slice ao l.length cap:=by
  unfold dd at d0
  obtain ⟨_,ao,cap,h,_⟩:=d0
  exact ⟨ao,cap,h⟩
 obtain ⟨q,rfl,hq⟩:=d2
 obtain ⟨ta,tb,tc,rfl⟩: ∃a b c,q= [a,b,c]:=by
  match q,hq.1 with
  | [a,b,c],_=>exact ⟨a,b,c,rfl⟩
 have ha:cc W0 μ sz w ta (.q t jt 0):=hq.2 0 ta _ rfl rfl
 have hbb:cc W0 μ sz w tb (.q t jt 1):=hq.2 1 tb _ rfl rfl
 have hcc:cc W0 μ sz w tc (.q t jt 2):=hq.2 2 tc _ rfl rfl
 refine (callsIn_wide.1 (ND hl hne hj hjt hA hF d0 (by unfold dd;exact ha) (by unfold dd;exact hbb) (by unfold dd;exact hcc) (ha.noL trivial) (hbb.noL trivial) (hcc.noL trivial))).mono ?_
 rintro e w' ⟨⟨a,b,hab,rfl⟩,hB⟩
 have hkp:Kp w w':=⟨hB.os,hB.tape,hB.output,hB.size,hB.block⟩
 refine ⟨_,W0,rfl,Kd.of_kp hkp,Gr.of_kp hF hkp,?_,fun p hp=>by cases hp⟩
 rw [hab]
 exact ⟨_,rfl,rfl,fun i x y hx hy=>by
  match i with
  | 0=>simp at hx hy;subst hx;subst hy;rfl
  | 1=>simp at hx hy;subst hx;subst hy;rfl
  | i+2=>simp at hx⟩
end Go.Proofs.YtkmalkcgkcpcmaaGreatDoor
