/-
  Several texts in one: Nj, No, Nl, Nm, Nn, Nq.
-/
import Derived.Test.YtfineedhebhpaaaGreatDoorHn
import Derived.Test.YtfineedhebhpaaaGreatDoorIa
import Derived.OrdersIn
import Derived.BigFrameIn
import Derived.RangeFuncNested
import Derived.RangeFuncBox
import Derived.Shelf.Abstract
import Derived.Shelf.RegionOpen
import Derived.WalkKit
namespace Go.Proofs.YtfineedhebhpaaaGreatDoor
open Nat renaming le_refl→Xv
open Go.RowKit
set_option linter.unusedVariables false
set_option linter.unusedSimpArgs false
abbrev FW (ro:Option Nat):Fence:= { Fence.wide with round:=ro }
def wd (ds:List Deferred) (a:Act):Act:= { a with defers:=ds }
theorem KD (ds:List Deferred) (a:Act):(wd ds a).eval=a.eval:=by
 funext x
 cases x<;>rfl
theorem Gi (ds:List Deferred) (a:Act) (d:Option Tmp) (v:Value):(wd ds a).put d v=wd ds (a.put d v):=by cases d<;>rfl
theorem Ox (a:Act) (d:Option Tmp) (v:Value):(a.put d v).defers=a.defers:=by cases d<;>rfl
def ndO (l:List Oper):Bool:=l.all fun o=>match o.op with | .defer _=>false|_=>true
theorem OL {l:List Oper} (h:ndO l=true) {o:Oper} (ho:o∈l) (c:Call):o.op≠ .defer c:=fun e=>by
 have:=List.all_eq_true.1 h o ho
 rw [e] at this
 cases this
section
variable {P:Program} {ro:Option Nat} {n:Nat} {ds:List Deferred}
theorem Tc {o:Oper} {a:Act} {w:World} {K K':Act→World→Prop} {Q':Exit→Act→World→Prop} (hnd: ∀c,o.op≠ .defer c) (hK0: ∀a' w',K a' w'→a'.defers= []) (h:o.wp P a w K (fun _ _ _=>False)) (hK: ∀a' w',K a' w'→K' (wd ds a') w'):o.wpIn (FW ro) n P (wd ds a) w K' Q':=by
 refine ⟨fun _ _=>trivial,?_⟩
 rw [Oper.semAt_eq _ _ _ hnd,KD]
 unfold Oper.wp at h
 generalize (execOp a.eval o).run P w=r at*
 cases r with
 | ok x w'=>
   cases x with
   | value v=>
     show K' ((wd ds a).put o.dst v) w'
     rw [Gi]
     exact hK _ _ h
   | skip=>
     show K' ((wd ds a).put o.dst undef) w'
     rw [Gi]
     exact hK _ _ h
   | defer d=>
     have:=hK0 _ _ h
     rw [Ox] at this
     cases this
   | enter f args=>
     refine ⟨fun h=>(by cases h),?_⟩
     refine (callsIn_wide (n:=n-1)).2 (Calls.mono h fun e w'' he=>?_)
     cases e with
     | returned v=>
       show K' ((wd ds a).put o.dst v) w''
       rw [Gi]
       exact hK _ _ he
     | panicked ch=>exact he.elim
     | outgrown=>obtain ⟨_,_,he⟩:=he;exact he.elim
   | row row args=>
     refine ⟨fun h=>(by cases h),fun c cs _=>?_⟩
     obtain ⟨v,w'',r,s⟩:=h c cs
     refine ⟨v,w'',?_,stepsIn_wide.2 s⟩
     show K' ((wd ds a).put o.dst v) w''
     rw [Gi]
     exact hK _ _ r
   | _=>exact h.elim
 | halt x w'=>cases x<;>exact h.elim
theorem Un {ops:Array Oper} {i:Nat} {a:Act} {w:World} {K K':Act→World→Prop} {Q':Exit→Act→World→Prop} (hnd: ∀o,ops[i]?=some o→ ∀c,o.op≠ .defer c) (hK0: ∀a' w',K a' w'→a'.defers= []) (h:wpOp P ops (fun _ _ _=>False) i K a w) (hK: ∀a' w',K a' w'→K' (wd ds a') w'):wpOpIn (FW ro) n P ops Q' i K' (wd ds a) w:=by
 unfold wpOp at h
 unfold wpOpIn
 cases ho:ops[i]? with
 | none=>rw [ho] at h;exact hK _ _ h
 | some o=>
   rw [ho] at h
   simp only at h⊢
   have e:Region.wanted o (yielded ops (wd ds a).tmps)=Region.wanted o (yielded ops a.tmps):=rfl
   rw [e]
   by_cases hw:Region.wanted o (yielded ops a.tmps)=true
   ·rw [if_pos hw] at h⊢
    rcases h with h|⟨_,_,_,h⟩
    ·exact Tc (hnd o ho) hK0 h hK
    ·exact h.elim
   ·rw [if_neg hw] at h⊢
    refine ⟨fun _ _=>trivial,?_⟩
    rw [Gi]
    exact hK _ _ h
def Xk (P:Program) (ro:Option Nat) (n:Nat) (ops:Array Oper) (Q:Exit→Act→World→Prop) (I:(Nat→Bool)→Act→World→Prop) (i:Nat):Prop:=
 ∀(o:Oper),ops[i]?=some o→ ∀(b:Nat→Bool) (a:Act) (w:World),b i=false→(∀d∈Cr o,b d=true)→I b a w→wpOpIn (FW ro) n P ops Q i (I (up b i)) a w
theorem LX {ops:Array Oper} {Q:Exit→Act→World→Prop} {I:(Nat→Bool)→Act→World→Prop} (hs: ∀i,i<ops.size→Xk P ro n ops Q I i) (hdag: ∀(i:Nat) (o:Oper),ops[i]?=some o→ ∀d∈Cr o,d<i)
  (hend: ∀b a w,(∀i,i<ops.size→b i=true)→I b a w→Q .normal a w):
  ∀(fuel:Nat) (L:Array Bool) (a:Act) (w:World),L.size=ops.size→L.toList.count false≤fuel→I (C4 L) a w→wpAnyIn (FW ro) n P .any ops Q fuel L a w:=by
 intro fuel
 induction fuel with
 | zero=>
   intro L a w hL hc hI
   have hr:Region.ready .any ops L= []:=by
    cases h:Region.ready .any ops L with
    | nil=>rfl
    | cons i rs=>
      exfalso
      have hi:i∈Region.ready .any ops L:=by rw [h];exact List.mem_cons_self
      obtain ⟨h0,o,ho,_⟩:=mem_ready.1 hi
      have hlt:i<L.size:=by rw [hL];exact (Array.getElem?_eq_some_iff.1 ho).1
      have hf:false∈L.toList:=by
       have h1:L[i]=false:=by simpa [Array.getD,hlt] using h0
       rw [←h1]
       exact Array.mem_toList_iff.2 (Array.getElem_mem hlt)
      have:=List.count_pos_iff.2 hf
      omega
   exact ⟨hr,hend _ _ _ (LP hdag hL hr) hI⟩
 | succ fuel ih=>
   intro L a w hL hc hI
   refine ⟨fun hr=>hend _ _ _ (LP hdag hL hr) hI,fun i hi=>?_⟩
   obtain ⟨h0,o,ho,hall⟩:=mem_ready.1 hi
   have hlt:i<ops.size:=(Array.getElem?_eq_some_iff.1 ho).1
   have hltL:i<L.size:=by rw [hL];exact hlt
   have h1:L[i]=false:=by simpa [Array.getD,hltL] using h0
   have hb:C4 L i=false:=by simp [C4,Array.getD,hltL,h1]
   refine wpOpIn_mono (fun a' w' hI'=>?_) (hs i hlt o ho (C4 L) a w hb (fun d hd=>?_) hI)
   ·refine ih (L.setIfInBounds i true) a' w' (by rw [Array.size_setIfInBounds];exact hL) ?_ (by rw [Qe L i hltL];exact hI')
    rw [Array.toList_setIfInBounds]
    have:=Kt (l:=L.toList) (i:=i) (by rw [Array.getElem?_toList,Array.getElem?_eq_getElem hltL,h1])
    omega
   ·obtain ⟨e,he,hbd,rfl⟩:=MO hd
    exact hall e he hbd
variable {X:Ctx} {σ σ':St}
theorem CN.noDefers {a:Act} {w:World} (h:CN X σ a w):a.defers= []:=by
 obtain ⟨_,_,_,h⟩:=h
 exact h.defers
def VG (ds:List Deferred) (X:Ctx) (Q:Exit→St→Prop) (e:Exit) (a:Act) (w:World):Prop:= ∃a0 σ,a=wd ds a0∧Q e σ∧CN X σ a0 w
def Awf (P:Program) (ro:Option Nat) (n:Nat) (ds:List Deferred) (X:Ctx) (c:Code) (σ:St) (Q:Exit→St→Prop):Prop:= ∀a w,CN X σ a w→c.wpIn (FW ro) n P (VG ds X Q) (wd ds a) w
variable {Q:Exit→St→Prop}
theorem Dh (h:Q .normal σ):Awf P ro n ds X .skip σ Q:=fun _ _ hc=>wpIn_skip ⟨_,σ,rfl,h,hc⟩
theorem Di {id:Nat} (h:Q (.exit id) σ):Awf P ro n ds X (.exit id) σ Q:=fun _ _ hc=>wpIn_exit ⟨_,σ,rfl,h,hc⟩
theorem Hm (h:Q .ret σ):Awf P ro n ds X .ret σ Q:=fun _ _ hc=>wpIn_ret ⟨_,σ,rfl,h,hc⟩
theorem D6 {x y:Code} (h:Awf P ro n ds X x σ (Mb (fun σ'=>Awf P ro n ds X y σ' Q) Q)):Awf P ro n ds X (.seq x y) σ Q:=fun a w hc=>
 wpIn_seq (wpIn_mono (h a w hc) fun e a' w' ⟨a0,σ',he,h1,h2⟩=>by
  subst he
  cases e with
  | normal=>exact h1 a0 w' h2
  | _=>exact ⟨a0,σ',rfl,h1,h2⟩)
theorem CO {id:Nat} {c:Code} (h:Awf P ro n ds X c σ (LM id Q)):Awf P ro n ds X (.block id c) σ Q:=fun a w hc=>
 wpIn_block (wpIn_mono (h a w hc) fun e a' w' ⟨a0,σ',he,h1,h2⟩=>by
  subst he
  cases e with
  | exit id'=>
    simp only [LM] at h1
    simp only [Exit.inBlock]
    by_cases hi:id'=id
    ·rw [if_pos hi] at h1⊢;exact ⟨a0,σ',rfl,h1,h2⟩
    ·rw [if_neg hi] at h1⊢;exact ⟨a0,σ',rfl,h1,h2⟩
  | _=>exact ⟨a0,σ',rfl,h1,h2⟩)
theorem CJ {c:Operand} {x y:Code} (h:evC σ.s c= .one (.v (.bool true))) (ht:Awf P ro n ds X x σ Q):Awf P ro n ds X (.cond c x y) σ Q:=fun a w hc=>wpIn_cond_true (by rw [KD];exact GR hc h) (ht a w hc)
theorem CL {c:Operand} {x y:Code} (h:evC σ.s c= .one (.v (.bool false))) (hf:Awf P ro n ds X y σ Q):Awf P ro n ds X (.cond c x y) σ Q:=fun a w hc=>wpIn_cond_false (by rw [KD];exact GR hc h) (hf a w hc)
theorem QV {ops:List Oper} {K:Exit→Act→World→Prop} (hnd:ndO ops=true) (hn: ∀(j:Nat) o',ops[j]?=some o'→ ∀t,o'.dst=some t→t<X.n): ∀ {r:List Oper} {σ σ':St} {es:List Eff},Run P X ops r σ es σ'→(∀o∈r,o∈ops)→(∀a w,CN X σ' a w→K .normal (wd ds a) w)→ ∀ {a:Act} {w:World},CN X σ a w→wpListIn (FW ro) n P ops.toArray K r (wd ds a) w:=by
 intro r σ σ' es h
 induction h with
 | nil=>exact fun _ hK a w hc=>wpListIn_nil (hK a w hc)
 | cons hD hr ha hl ih=>
   intro hm hK a w hc
   refine wpListIn_step fun K' hK'=>?_
   rename_i o l σ σ' e es
   have hmo:=hm o List.mem_cons_self
   obtain ⟨i,hi,hio⟩:=List.mem_iff_getElem.1 hmo
   have ho:ops[i]?=some o:=by rw [List.getElem?_eq_getElem hi,hio]
   have ew:Region.wanted o (yielded ops.toArray (wd ds a).tmps)=Region.wanted o (yielded ops.toArray a.tmps):=rfl
   rw [ew]
   unfold LV at hD
   cases hg:o.guard with
   | none=>
     rw [hg] at hD
     rw [if_pos (by simp [Region.wanted,hg])]
     exact Tc (K:=fun a' w'=>CN X (σ.app o.dst e) a' w') (OL hnd hmo) (fun _ _ h=>CN.noDefers h) (hD σ (fun _ _=> .inl rfl) (fun k _=> .inr rfl) hr ha a w hc _ _ fun _ _ h=>h) fun a' w' hc'=>hK' _ _ (ih (fun o ho=>hm o (List.mem_cons_of_mem _ ho)) hK hc')
   | some gw=>
     obtain ⟨g,want⟩:=gw
     rw [hg] at hD
     obtain ⟨o',ho',d,hd,hh⟩:=hD
     have hdn:=hn g o' ho' d hd
     rcases hh with ⟨h1,h2⟩|⟨h1,rfl⟩|⟨h1,rfl⟩
     ·have hy:=Dp hc ho' hd h1 hdn
      rw [if_pos (by simp [Region.wanted,hg,hy])]
      exact Tc (K:=fun a' w'=>CN X (σ.app o.dst e) a' w') (OL hnd hmo) (fun _ _ h=>CN.noDefers h) (h2 σ (fun _ _=> .inl rfl) (fun k _=> .inr rfl) hr ha a w hc _ _ fun _ _ h=>h) fun a' w' hc'=>hK' _ _ (ih (fun o ho=>hm o (List.mem_cons_of_mem _ ho)) hK hc')
     ·have hy:=Dp hc ho' hd h1 hdn
      rw [if_neg (by simp [Region.wanted,hg,hy])]
      obtain ⟨W,hW,μ,hc⟩:=hc
      refine ⟨fun _ _=>trivial,?_⟩
      rw [Gi]
      exact hK' _ _ (ih (fun o ho=>hm o (List.mem_cons_of_mem _ ho)) hK ⟨W,hW,μ,BW hc (fun t ht=>hn i o ho t ht) rfl⟩)
     ·have hy:=EC hc ho' hd h1 hdn
      rw [if_neg (by simp [Region.wanted,hg,hy])]
      obtain ⟨W,hW,μ,hc⟩:=hc
      refine ⟨fun _ _=>trivial,?_⟩
      rw [Gi]
      exact hK' _ _ (ih (fun o ho=>hm o (List.mem_cons_of_mem _ ho)) hK ⟨W,hW,μ,BW hc (fun t ht=>hn i o ho t ht) rfl⟩)
theorem Ch {id:Nat} {l:List Oper} (hn:(l.all fun o=>match o.dst with|some t=>Nat.blt t X.n|none=>true)=true) (hr:Ab P X l l σ fun _ σ'=>Q .normal σ') (hnd:ndO l=true:=by kernel_rfl):Awf P ro n ds X (.region id l.toArray false) σ Q:=fun a w h=>by
 obtain ⟨es,σ',h1,h2⟩:=hr
 exact wpIn_region_lit (QV hnd (fun j o' ho t ht=>by
  have:=List.all_eq_true.1 hn o' (List.mem_of_getElem? ho)
  rw [ht] at this
  simpa using this) h1 (fun _ h=>h) (fun a' _ h3=>⟨a',σ',rfl,h2,h3⟩) h)
theorem CI {id:Nat} {l:List Oper} (hm:P.follows .mixedOrders=true) (hd:Pa l=true) (hn:(l.all fun o=>match o.dst with|some t=>Nat.blt t X.n|none=>true)=true) (hr:Ab P X l l σ fun es σ'=>chk l es=true∧Q .normal σ') (hnd:ndO l=true:=by kernel_rfl):Awf P ro n ds X (.region id l.toArray true) σ Q:=fun a w h=>by
 obtain ⟨es,σ',hr,hc,hq⟩:=hr
 have hlen:=hr.len
 refine wpIn_region_any hm (LX (I:=fun b a' w'=> ∃a0,a'=wd ds a0∧Dn l b∧CN X (BG b 0 l es σ) a0 w') (fun i hi o ho b a' w' hb hw ⟨a0,he,hI⟩=>?_) (TU hd) ?_ _ _ _ _ (by simp) (by simp) ?_)
 ·subst he
  exact Un (K:=fun a w=>Dn l (up b i)∧CN X (BG (up b i) 0 l es σ) a w) (fun o' ho'=>OL hnd (List.mem_of_getElem? (by simpa using ho'))) (fun _ _ h=>CN.noDefers h.2) (Ko (Q:=fun _ _ _=>False) hn hr hc i hi o ho b a0 w' hb hw hI) fun a1 w1 h1=>⟨a1,rfl,h1⟩
 ·rintro b a' w' hall ⟨a0,rfl,_,hcn⟩
  have:BG b 0 l es σ=σ':=by
   rw [←hr.ends 0]
   have: ∀(l:List Oper) (es:List Eff) (σ:St) (k:Nat),(∀j,j<l.length→b (k+j)=true)→BG b k l es σ=BG (fun _=>true) k l es σ:=by
    intro l
    induction l with
    | nil=>intro es σ k _;cases es<;>rfl
    | cons o l ih=>
      intro es σ k hb
      cases es with
      | nil=>rfl
      | cons e es=>
        show BG b (k+1) l es _=BG _ (k+1) l es _
        rw [show b k=true from hb 0 (by simp)]
        exact ih es _ _ fun j hj=>by rw [show k+1+j=k+(j+1) from by omega];exact hb (j+1) (by simpa using hj)
   exact this l es σ 0 fun j hj=>by rw [Nat.zero_add];exact hall j (by simpa using hj)
  rw [this] at hcn
  exact ⟨a0,σ',rfl,hq,hcn⟩
 ·have:C4 (Array.replicate l.toArray.size false)=fun _=>false:=by
   funext j
   unfold C4
   by_cases hj:j<l.length<;>simp [Array.getD,hj]
  rw [this]
  refine ⟨a,rfl,fun i o _ hb=>by simp at hb,?_⟩
  rw [F4 fun _ _=>rfl]
  exact h.drew
end
set_option maxRecDepth 20000
set_option maxHeartbeats 4000000
abbrev XB (V B:World) (g k0 n:Nat):Ctx:=⟨V,B,fun x=>x=g,n,[k0],fun _=>(g,1)⟩
theorem TY {V B w:World} {n g k0:Nat} {ss:List (Nat×AV)} {v:Value} {e:TypeId} {a:Act} (hF:Fr V w) (hk:Kd (fun x=>x=g) B w) (hd:a.defers= []) (hs:a.tmps.size=n) (hg:w.heap[g]?=some (.cells #[v] e (0,0))) (hv:noL v) (hna: ¬alive V g)
  (h: ∀p∈ss,cv V (fun _=>(g,1)) (fun k=>(lk [] [(k0,[C.v v])] k).length) w (a.tmps.getD p.1 undef) p.2):CN (XB V B g k0 n) (stL ss [(k0,[.v v])]) a w:=by
 have key: ∀k,(lk [] [(k0,[C.v v])] k).length≠0→k=k0:=fun k hk=>by
  unfold lk at hk
  cases hb:Nat.beq k0 k with
  | true=>exact (Nat.eq_of_beq_eq_true hb).symm
  | false=>rw [hb] at hk;exact absurd rfl hk
 have k1:lk [] [(k0,[C.v v])] k0= [C.v v]:=by
  unfold lk
  rw [show Nat.beq k0 k0=true by simp]
 refine C0.cn ⟨fun _=>(g,1),hF,hk,hd,hs,fun t=>?_,fun k hk=>?_,fun k k' h1 h2 _=>(key k h1).trans (key k' h2).symm,fun k _=>⟨hna,.inr rfl⟩,fun k hk=>?_⟩
 ·show cv V (fun _=>(g,1)) (fun k=>(lk [] [(k0,[C.v v])] k).length) w (a.tmps.getD t undef) (lk .junk ss t)
  rcases EQ (d:=AV.junk) (l:=ss) (k:=t) with h1|h1
  ·rw [h1];exact trivial
  ·exact h _ h1
 ·obtain rfl:=key k hk
  refine ⟨#[v],e,hg,rfl,?_,fun o x hx=>?_⟩
  ·show (lk [] [(k,[C.v v])] k).length≤1
   rw [k1];exact Xv _
  ·have ho:o=0:=by
    have:=(Array.getElem?_eq_some_iff.1 hx).1
    simpa using this
   subst ho
   have hxv:v=x:=by simpa using hx
   subst hxv
   refine ⟨hv,fun _=>?_⟩
   show cc V _ _ w v ((lk [] [(k,[C.v v])] k).getD 0 (.v (.bool false)))∧nl ((lk [] [(k,[C.v v])] k).getD 0 (.v (.bool false)))
   rw [k1]
   exact ⟨rfl,hv⟩
 ·have:k=k0:=by simpa using hk
  subst this
  refine ⟨rfl,?_⟩
  show (lk [] [(k,[C.v v])] k).length≠0
  rw [k1];exact Nat.one_ne_zero
theorem Vp {V B w:World} {n g k0:Nat} {ss:List (Nat×AV)} {v:Value} {a:Act} (h:CN (XB V B g k0 n) (stL ss [(k0,[.v v])]) a w):Kd (fun x=>x=g) B w∧ ∃e,w.heap[g]?=some (.cells #[v] e (0,0))∧noL v:=by
 obtain ⟨W1,hg,μ,h⟩:=h
 have k1:lk [] [(k0,[C.v v])] k0= [C.v v]:=by
  unfold lk
  rw [show Nat.beq k0 k0=true by simp]
 obtain ⟨hm,hz⟩:=h.par k0 (List.mem_singleton.2 rfl)
 obtain ⟨cs,e,h1,h2,h3,h4⟩:=h.blk k0 hz
 rw [hm] at h1 h2
 refine ⟨h.kd,e,?_,?_⟩
 all_goals
  have hl:cs.size=1:=h2
  obtain ⟨x,hx⟩: ∃x,cs= #[x]:=by
   obtain ⟨l⟩:=cs
   match l,hl with
   | [x],_=>exact ⟨x,rfl⟩
  subst hx
  obtain ⟨hn,hc⟩:=h4 0 x rfl
  have hc:=(hc (by
   show 0<(lk [] [(k0,[C.v v])] k0).length
   rw [k1];exact Nat.zero_lt_one)).1
  have hc:cc W1 μ _ w x ((lk [] [(k0,[C.v v])] k0).getD 0 (.v (.bool false))):=hc
  rw [k1] at hc
  have hxv:x=v:=hc
  subst hxv
 ·exact h1
 ·exact hn
def Xh (X:Ctx) (k0:Nat) (G:Prop) (v:Value) (Jm:Code→Value→Prop):Exit→St→Prop
 | .normal,σ=>G∧Wk X σ [] [(k0,[.v v])]
 | .ret,σ=> ∃v',Jm .ret v'∧Wk X σ [] [(k0,[.v v'])]
 | .exit id,σ=> ∃v',Jm (.exit id) v'∧Wk X σ [] [(k0,[.v v'])]
 | _,_=>False
theorem Kd.grownFrom {g:Nat} {w W W':World} {row:Option Nat} (h:Kd (fun x=>x=g) w W) (hg:W.grownBy W' row) (hr: ∀r,row=some r→w.heap.size≤r):Kd (fun x=>x=g) w W':=
 ⟨hg.os.trans h.os,hg.tape.trans h.tape,hg.output.trans h.output,Nat.le_trans h.size hg.size,fun k hk hd=>(hg.block k (Nat.lt_of_lt_of_le hk h.size) (fun e=>by have:=hr k e.symm;omega)).trans (h.block k hk hd)⟩
theorem SQ {α:Type} {P:Program} {n N:Nat} {g:Operand} {ps:Array Tmp} {assign body:Code} {gf:Nat} {lb:Array Value} {encs:α→Array Value} {S Sp:List α→Prop} {NN:Nat} {V w1:World} {gb k0:Nat} {T:TypeId} {val:List α→Value} {G:List α→Prop} {Jm:Code→List α→Value→Prop} {a:Act} {a₁:α→Act} {ssx:α→List (Nat×AV)} {Q:Exit→Act→World→Prop}
  (h1:1≤n) (hgv:a.eval g= .func (.func gf) #[] lb) (eg: ∀args w,(callFunc gf args).run P w= .ok (.enter gf args) w) (hseq:SeqStopsK Fence.wide (n-1) P gf lb encs (KpC fun x=>x=gb) S Sp NN w1) (hps: ∀x,(encs x).size=ps.size)
  (hV:Fr V w1) (hgb:w1.heap[gb]?=some (.cells #[val []] T (0,0))) (hna: ¬alive V gb) (hno: ∀pre,noL (val pre))
  (hassign: ∀(l:Nat) (x:α) (W:World) (K:Act→World→Prop),K (a₁ x) W→assign.wpIn (Fence.wide.inRound l) (n-1-1) P (Exit.then K (fun _ _ _=>False)) { tmps:=(ps.zip (encs x)).foldl (fun t (p,v)=>t.setIfInBounds p v) a.tmps,defers:= [] } W)
  (hslots: ∀x,(a₁ x).defers= []∧(a₁ x).tmps.size=N∧ ∀W sz,Fr V W→Kl w1 W→sz k0≠0→ ∀p∈ssx x,cv V (fun _=>(gb,1)) sz W ((a₁ x).tmps.getD p.1 undef) p.2)
  (hG:G []) (hbody: ∀(l:Nat) (pre:List α) (x:α) (W:World),G pre→Awf P (some l) (n-1-1) [] (XB V W gb k0 N) body (stL (ssx x) [(k0,[.v (val pre)])]) (Xh (XB V W gb k0 N) k0 (G (pre++ [x])) (val (pre++ [x])) fun c v=>Jm c (pre++ [x]) v))
  (hdone: ∀(D:Nat) (xs:List α) (W:World) (e:TypeId),w1.heap.size≤D→S xs→G xs→W.heap[gb]?=some (.cells #[val xs] e (0,0))→Kd (fun x=>x=gb) w1 W→W.heap[D]?=some (.deferred (some []))→Q .normal { a with defers:= { target:= .collected D,args:= #[] } ::a.defers } W)
  (hstop: ∀(D:Nat) (c:Code) (pre:List α) (v:Value) (W:World) (e:TypeId),w1.heap.size≤D→Sp pre→Jm c pre v→noL v→W.heap[gb]?=some (.cells #[v] e (0,0))→Kd (fun x=>x=gb) w1 W→W.heap[D]?=some (.deferred (some []))→c.wpIn Fence.wide n P Q { a with defers:= { target:= .collected D,args:= #[] } ::a.defers } W):
  (Code.rangeFunc g ps assign body).wpIn Fence.wide n P Q a w1:=by
 have hlt:gb<w1.heap.size:=(Array.getElem?_eq_some_iff.1 hgb).1
 have hfr: ∀ {W:World},Kd (fun x=>x=gb) w1 W→Fr V W:=fun {W} h q hq=>by
  have h2:=hV q hq
  obtain ⟨c,e,fz,h3,h4⟩:=hq
  rw [←h2]
  exact h.block q (Array.getElem?_eq_some_iff.1 (h2.trans h3)).1 fun e=>hna (e▸⟨c,_,fz,h3,h4⟩)
 have hkl: ∀ {W:World},Kd (fun x=>x=gb) w1 W→Kl w1 W:=fun {W} h=>⟨h.size,fun q c e fz hq hu=>h.block q (Array.getElem?_eq_some_iff.1 hq).1 fun eq=>by
  subst eq
  rw [hgb] at hq
  cases hq
  obtain ⟨i,m,hi⟩:=hu
  have hi0:i=0:=by
   have:=(Array.getElem?_eq_some_iff.1 hi).1
   simpa using this
  subst hi0
  have:val []= .int .u32 m:=by simpa using hi
  exact (hno []).1 m this⟩
 refine wpIn_rangeFunc_ownF rfl h1 hgv trivial eg hseq (fun h k=>h.trans k) (fun W l o o' hle hl ho _=>KpC.put W o' hl ho (by omega)) (Below.refl _ _) hps
  (fun pre W=>(G pre∧ ∃e,W.heap[gb]?=some (.cells #[val pre] e (0,0)))∧Kd (fun x=>x=gb) w1 W)
  (fun c pre W=>(∃v e,Jm c pre v∧noL v∧W.heap[gb]?=some (.cells #[v] e (0,0)))∧Kd (fun x=>x=gb) w1 W)
  (fun s A B row hs hg hr=>⟨?_,hs.2.grownFrom hg fun r e=>(hr r e).1⟩) (fun c s A B row hs hg hr=>⟨?_,hs.2.grownFrom hg fun r e=>(hr r e).1⟩) ⟨⟨hG,T,hgb⟩,Kd.refl _ _⟩ a₁ hassign ?_ ?_ ?_
 ·obtain ⟨hG1,e,he⟩:=hs.1
  exact ⟨hG1,e,(hg.block gb (Array.getElem?_eq_some_iff.1 he).1 fun er=>by have:=(hr gb er.symm).1;omega).trans he⟩
 ·obtain ⟨v,e,hj,hv,he⟩:=hs.1
  exact ⟨v,e,hj,hv,(hg.block gb (Array.getElem?_eq_some_iff.1 he).1 fun er=>by have:=(hr gb er.symm).1;omega).trans he⟩
 ·rintro l pre x W ⟨⟨hG1,e,he⟩,hk⟩ _
  obtain ⟨hd1,hs1,hsl⟩:=hslots x
  have hz:(fun k=>(lk [] [(k0,[C.v (val pre)])] k).length) k0≠0:=by
   show (lk [] [(k0,[C.v (val pre)])] k0).length≠0
   unfold lk
   rw [show Nat.beq k0 k0=true by simp]
   exact Nat.one_ne_zero
  have hcn:CN (XB V W gb k0 N) (stL (ssx x) [(k0,[.v (val pre)])]) (a₁ x) W:=TY (hfr hk) (Kd.refl _ _) hd1 hs1 he (hno pre) hna (hsl W _ (hfr hk) (hkl hk) hz)
  have hb:=hbody l pre x W hG1 (a₁ x) W hcn
  have e0:wd [] (a₁ x)=a₁ x:=by
   show ({ tmps:=(a₁ x).tmps,defers:= [] } :Act)=a₁ x
   rw [←hd1]
  rw [e0] at hb
  refine wpIn_mono hb ?_
  rintro ex a' W' ⟨a0,σ,rfl,hq,hc⟩
  have fin: ∀ {v:Value},Wk (XB V W gb k0 N) σ [] [(k0,[.v v])]→KeepsOthers W W'∧KpC (fun x=>x=gb) W W'∧(∃e,W'.heap[gb]?=some (.cells #[v] e (0,0)))∧noL v∧Kd (fun x=>x=gb) w1 W':=fun {v} hw=>by
   obtain ⟨hkd,e',he',hv⟩:=Vp (hw.cn hc)
   refine ⟨⟨hkd.size,fun k o ho hoc=>?_⟩,⟨hkd.os,hkd.tape,hkd.output,hkd.size,fun k c e2 fz hk2 hd2=>(hkd.block k (Array.getElem?_eq_some_iff.1 hk2).1 hd2).trans hk2,fun _ k c e2 fz hd2 hk2 i m hi=>?_⟩,⟨e',he'⟩,hv,?_⟩
   ·by_cases hkg:k=gb
    ·subst hkg
     rw [he] at ho
     cases ho
     cases hoc
    ·exact (hkd.block k (Array.getElem?_eq_some_iff.1 ho).1 hkg).trans ho
   ·subst hd2
    rw [he'] at hk2
    cases hk2
    have hi0:i=0:=by
     have:=(Array.getElem?_eq_some_iff.1 hi).1
     simpa using this
    subst hi0
    have:v= .int .u32 m:=by simpa using hi
    exact hv.1 m this
   ·exact hk.trans hkd
  cases ex with
  | normal=>
    obtain ⟨f1,f2,f3,_,f4⟩:=fin hq.2
    exact ⟨f1,f2,⟨hq.1,f3⟩,f4⟩
  | ret=>
    obtain ⟨v,hj,hw⟩:=hq
    obtain ⟨f1,_,⟨e2,f3⟩,f5,f4⟩:=fin hw
    exact ⟨f1,⟨v,e2,hj,f5,f3⟩,f4⟩
  | exit id=>
    obtain ⟨v,hj,hw⟩:=hq
    obtain ⟨f1,_,⟨e2,f3⟩,f5,f4⟩:=fin hw
    exact ⟨f1,⟨v,e2,hj,f5,f3⟩,f4⟩
  | _=>exact hq.elim
 ·rintro D xs W hD hS ⟨⟨hG1,e,he⟩,hk⟩ hDh
  exact hdone D xs W e hD hS hG1 he hk hDh
 ·rintro D c pre W hD hSp ⟨⟨v,e,hj,hv,he⟩,hk⟩ hDh
  exact hstop D c pre v W e hD hSp hj hv he hk hDh
def NY (l:List Rat):Nat→Bool
 | 0=>true
 | i+1=>if Cm (l.getD (i+1) 0) (l.getD i 0)<0 then false else NY l i
def srt (l:List Rat):Bool:=NY l (l.length-1)
theorem DV {l:List Rat} {i:Nat} {x:Rat} (h:l[i]?=some x):l.getD i 0=x:=by
 rw [List.getD_eq_getElem?_getD,h];rfl
theorem Sk {j:Nat} {l:List Rat} (hj:j≤100000) (hl:l.length≤1000000) (hne:0<l.length):
  Ctr Tryz.prog Amb 153 [.one (BI j l),.one (.fn 134 [])] (.one (.v (.bool (srt l)))):=by
 have b0:=Cq (k:= .i64) (show (IntKind.i64).wrap ((l.length:Int)-1)=((l.length-1:Nat):Int) by rw [show ((l.length:Int)-1)=((l.length-1:Nat):Int) by omega];exact IntWalk.i64_in _ (by omega))
 obtain ⟨S,hS⟩: ∃S,S=srt l:=⟨_,rfl⟩
 rw [←hS]
 refine AK Tryz.func153 rfl rfl rfl rfl rfl rfl ?_
 intro W0 base D μ0 hA hD
 repeat (first|refine Aj ?_|refine Ae ?_|refine Ac rfl ?_|refine Ad rfl ?_|refine AW ?_|refine AX ?_|refine Ag ?_|refine Ah ?_)
 refine Cs (fun c σ=> ∃i:Nat,c=i∧i<l.length∧NY l i=S∧Wk ⟨W0,base,D,25,[],μ0⟩ σ [(0,.one (BI j l)),(1,.one (.fn 134 [])),(5,Au (i:Nat))] []) (n:=l.length-1) ⟨l.length-1,rfl,by omega,hS.symm,?_⟩ ?_
 ·exact BN
 clear b0 hS
 intro c σ hI
 obtain ⟨i,hc,hi0,hS,hw⟩:=hI
 refine C7 hw ?_
 clear hw
 cases i with
 | zero=>
   have bi:=DY (k:= .i64) (decide_eq_false (show ¬((0:Nat):Int)>0 by omega))
   replace hS:true=S:=hS
   subst hS
   repeat (first|refine Aj ?_|refine Ae ?_|refine Ac rfl ?_|refine Ad rfl ?_|refine AW ?_|refine AX ?_|refine Ag ?_|refine Ah ?_)
   refine AU (And.intro (Or.inr rfl) ?_)
   exact Cw
 | succ i=>
   have bi:=DY (k:= .i64) (decide_eq_true (show ((i+1:Nat):Int)>0 by omega))
   have hin:=Cq (k:= .i64) (show (IntKind.i64).wrap (((i+1:Nat):Int)-1)=((i:Nat):Int) by rw [show (((i+1:Nat):Int)-1)=((i:Nat):Int) by omega];exact IntWalk.i64_in _ (by omega))
   obtain ⟨x,hx,hx'⟩:=CX (l:=l) (i:=i+1) hi0
   obtain ⟨y,hy,hy'⟩:=CX (l:=l) (i:=i) (by omega)
   have C1:=NC (j:=j) (k:=j) (x:=x) (y:=y) (by omega) (by omega)
   unfold NY at hS
   rw [DV hx',DV hy'] at hS
   by_cases h:Cm x y<0
   ·have bl:=BL (k:= .i64) (decide_eq_true h)
    rw [if_pos h] at hS
    subst hS
    repeat (first|refine Aj ?_|refine Ae ?_|refine Ac rfl ?_|refine Ad rfl ?_|refine AW ?_|refine AX ?_|refine Ag ?_|refine Ah ?_)
    refine AU (And.intro (Or.inr rfl) ?_)
    exact Cw
   ·have bl:=BL (k:= .i64) (decide_eq_false h)
    rw [if_neg h] at hS
    repeat (first|refine Aj ?_|refine Ae ?_|refine Ac rfl ?_|refine Ad rfl ?_|refine AW ?_|refine AX ?_|refine Ag ?_|refine Ah ?_)
    refine ⟨i,by omega,i,rfl,by omega,hS,?_⟩
    exact BN
def T0 (l:List Rat) (p:Nat) (c:Bool):Int:=if l.length<2*p+2 then 5 else if 40<l.length-p-1 then 2 else if srt l&&c then 0 else 5
theorem IP {j p:Nat} {l:List Rat} {c:Bool} (hj:j≤100000) (hl:l.length≤1000000) (hp:1≤p∧p≤6) (hc:Ctr Tryz.prog Amb 154 [.one (BI j l),Au (p:Nat)] (.one (.v (.bool c)))):
  Ctr Tryz.prog Amb 77 [.one (BI j l),Au (p:Nat)] (Au (T0 l p c)):=by
 have P0:=Hs hp
 have m1:FA .mul .i64 2 ((p:Nat):Int)=some (.int .i64 ((2*p:Nat):Int)):=by
  show some (Value.int .i64 ((IntKind.i64).wrap (2*((p:Nat):Int))))=_
  rw [show (2*((p:Nat):Int))=((2*p:Nat):Int) by omega,show (IntKind.i64).wrap ((2*p:Nat):Int)=((2*p:Nat):Int) from IntWalk.i64_in _ (by omega)]
 have a1:=BD (k:= .i64) (show (IntKind.i64).wrap (((2*p:Nat):Int)+2)=((2*p+2:Nat):Int) by rw [show (((2*p:Nat):Int)+2)=((2*p+2:Nat):Int) by omega];exact IntWalk.i64_in _ (by omega))
 unfold T0
 by_cases h1:l.length<2*p+2
 ·have b1:=BL (k:= .i64) (decide_eq_true (show (l.length:Int)<((2*p+2:Nat):Int) by omega))
  rw [if_pos h1]
  refine AK Tryz.func77 rfl rfl rfl rfl rfl rfl ?_
  intro W0 base D μ0 hA hD
  repeat (first|refine Aj ?_|refine Ae ?_|refine Ac rfl ?_|refine Ad rfl ?_|refine AW ?_|refine AX ?_|refine Ag ?_|refine Ah ?_)
  refine AU (And.intro (Or.inr rfl) ?_)
  exact Cw
 rw [if_neg h1]
 have b1:=BL (k:= .i64) (decide_eq_false (show ¬(l.length:Int)<((2*p+2:Nat):Int) by omega))
 have P1:=KU (j:=j) (p:=p) hl (by omega)
 by_cases h2:40<l.length-p-1
 ·have b2:=DY (k:= .i64) (decide_eq_true (show ((l.length-p-1:Nat):Int)>40 by omega))
  rw [if_pos h2]
  refine AK Tryz.func77 rfl rfl rfl rfl rfl rfl ?_
  intro W0 base D μ0 hA hD
  repeat (first|refine Aj ?_|refine Ae ?_|refine Ac rfl ?_|refine Ad rfl ?_|refine AW ?_|refine AX ?_|refine Ag ?_|refine Ah ?_)
  refine AU (And.intro (Or.inr rfl) ?_)
  exact Cw
 rw [if_neg h2]
 have b2:=DY (k:= .i64) (decide_eq_false (show ¬((l.length-p-1:Nat):Int)>40 by omega))
 have S1:=Sk (j:=j) hj hl (by omega)
 generalize srt l=s at*
 cases s with
 | false=>
   refine AK Tryz.func77 rfl rfl rfl rfl rfl rfl ?_
   intro W0 base D μ0 hA hD
   repeat (first|refine Aj ?_|refine Ae ?_|refine Ac rfl ?_|refine Ad rfl ?_|refine AW ?_|refine AX ?_|refine Ag ?_|refine Ah ?_)
   refine AU (And.intro (Or.inr rfl) ?_)
   exact Cw
 | true=>
   cases c with
   | false=>
     refine AK Tryz.func77 rfl rfl rfl rfl rfl rfl ?_
     intro W0 base D μ0 hA hD
     repeat (first|refine Aj ?_|refine Ae ?_|refine Ac rfl ?_|refine Ad rfl ?_|refine AW ?_|refine AX ?_|refine Ag ?_|refine Ah ?_)
     refine AU (And.intro (Or.inr rfl) ?_)
     exact Cw
   | true=>
     refine AK Tryz.func77 rfl rfl rfl rfl rfl rfl ?_
     intro W0 base D μ0 hA hD
     repeat (first|refine Aj ?_|refine Ae ?_|refine Ac rfl ?_|refine Ad rfl ?_|refine AW ?_|refine AX ?_|refine Ag ?_|refine Ah ?_)
     refine AU (And.intro (Or.inr rfl) ?_)
     exact Cw
section
variable {P:Program} {X:Ctx} {ops l:List Oper} {σ:St} {K:List Eff→St→Prop} {dst:Option Tmp} {ty:TypeId} {pos:String} {af:Array Edge} {gd:Option (Nat×Bool)}
theorem Ri {s:Nat→AV} {t u:TypeId} {x y:Operand} {a b:ByteArray} (hx:evC s x= .one (.v (.string a))) (hy:evC s y= .one (.v (.string b))) (hab:a=b):CP P ⟨dst,.binOp .eql t x y u,ty,pos,af,gd⟩ s (.one (.v (.bool true))):=fun W0 μ sz w ρ hρ=>by
 have h:=hρ x (by simp [Op.operands])
 rw [hx] at h
 replace h:ρ x= .string a:=h
 have h':=hρ y (by simp [Op.operands])
 rw [hy] at h'
 replace h':ρ y= .string b:=h'
 refine ⟨.bool true,?_,rfl⟩
 have h4:(binOp .eql t (.string a) (.string b)).run P w= .ok (.bool true) w:=by
  show (Op.stringOp .eql a b).run P w=_
  rw [hab]
  show Result.ok (Value.bool (b.toList==b.toList)) w=_
  rw [beq_self_eq_true]
 have h5:(eqGuard .eql t x y (.string a) (.string b)).run P w= .ok () w:=rfl
 show (do let v←(do eqGuard .eql t x y (ρ x) (ρ y);binOp .eql t (ρ x) (ρ y):Sem Value);pure (Next.value v):Sem Next).run P w=_
 rw [h,h',Sem.run_bind,Sem.run_bind,h5,Result.andThen_ok,h4]
 rfl
theorem Wa {t u:TypeId} {x y:Operand} {a b:ByteArray} (hg:gOk ops σ.s gd) (hd:dB X.n dst=true) (hx:evC σ.s x= .one (.v (.string a))) (hy:evC σ.s y= .one (.v (.string b))) (hc:a=b) (hl:Ab P X ops l (σ.app dst ⟨.one (.v (.bool true)),[],[],[]⟩) (fun es σ'=>K (⟨.one (.v (.bool true)),[],[],[]⟩::es) σ')):
  Ab P X ops (⟨dst,.binOp .eql t x y u,ty,pos,af,gd⟩::l) σ K:=BF (o:=⟨dst,.binOp .eql t x y u,ty,pos,af,gd⟩) hg hd (Ri hx hy hc) hl
theorem VZ {t u:TypeId} {x y:Operand} {a b:ByteArray} (hg:gOk ops σ.s gd:=by first|exact trivial|exact rfl) (hd:dB X.n dst=true:=by exact rfl) (hx:evC σ.s x= .one (.v (.string a)):=by exact rfl) (hy:evC σ.s y= .one (.v (.string b)):=by exact rfl) (hc:a=b:=by exact rfl) (hl:Ab P X ops l (σ.app dst ⟨.one (.v (.bool true)),[],[],[]⟩) (fun es σ'=>K (⟨.one (.v (.bool true)),[],[],[]⟩::es) σ')):
  Ab P X ops (⟨dst,.binOp .eql t x y u,ty,pos,af,gd⟩::l) σ K:=Wa hg hd hx hy hc hl
end
theorem PI {j:Nat} {x:Rat} {s:ByteArray} (hj:j≤100000) (h:(Pv x).toArray=s.data):Ctr Tryz.prog Amb 79 [nm j x] (.one (.v (.string s))):=by
 have:=Wl (x:=x) hj
 rw [h] at this
 exact this
def kn7:List Rat:= [0,0,0,1,2,2,2]
theorem Sx (hc:Ctr Tryz.prog Amb 154 [.one (BI 2 kn7),Au (2:Nat)] (.one (.v (.bool true)))):
  Ctr Tryz.prog Amb 62 [] (.one (.v (.bool true))):=by
 have I0:=IW (n:=0) rfl
 have I1:=IW (n:=1) rfl
 have I2:=IW (n:=2) rfl
 have K1:=IP (j:=2) (p:=2) (l:=kn7) (c:=true) (by decide) (by decide) (by decide) hc
 have ek:T0 kn7 2 true=0:=by decide+kernel
 rw [ek] at K1
 have G1:=IO (j:=2) (p:=2) (l:=kn7) (by decide) (by decide) (by decide) (by decide)
 have eg:Ge kn7 2= [0,(1:Rat)/2,(3:Rat)/2,2]:=by decide+kernel
 rw [eg] at G1
 have P1:=KU (j:=2) (p:=2) (l:=kn7) (by decide) (by decide)
 have T1:=PI (j:=2*(2+3)+4) (x:=(1:Rat)/2) (s:= { data:= #[49,47,50] }) (by decide) (by decide+kernel)
 have T2:=PI (j:=2*(2+3)+4) (x:=(3:Rat)/2) (s:= { data:= #[51,47,50] }) (by decide) (by decide+kernel)
 replace P1:Ctr Tryz.prog Amb 131 [.one (BI 2 kn7),Au (2:Nat)] (Au 4):=P1
 have hx:([0,(1:Rat)/2,(3:Rat)/2,2]:List Rat)[((1:Int)).toNat]?=some ((1:Rat)/2):=rfl
 have hy:([0,(1:Rat)/2,(3:Rat)/2,2]:List Rat)[((2:Int)).toNat]?=some ((3:Rat)/2):=rfl
 have b4:=Fx (k:= .i64) (decide_eq_true (show ((([0,(1:Rat)/2,(3:Rat)/2,2]:List Rat).length:Nat):Int)=4 from rfl))
 have hl4:([0,(1:Rat)/2,(3:Rat)/2,2]:List Rat).length=4:=rfl
 generalize ([0,(1:Rat)/2,(3:Rat)/2,2]:List Rat)=L at*
 refine AK Tryz.func62 rfl rfl rfl rfl rfl rfl ?_
 intro W0 base D μ0 hA hD
 repeat (first|refine Aj ?_|refine Ae ?_|refine Ac rfl ?_|refine Ad rfl ?_|refine AW ?_|refine AX ?_|refine Ag ?_|refine Ah ?_)
 refine Cs (fun c σ=> ∃(i:Nat) (done:List Rat),c=7-i∧i≤7∧done=kn7.take i∧Wk ⟨W0,base,D,45,[],μ0⟩ σ [(1,.one (.gl 900 done.length 3)),(2,Au (i:Nat))] [(900,Al (nmD 2) done)]) (n:=7) ⟨0,[],rfl,by decide,rfl,?_⟩ ?_
 ·exact BN
 intro c σ hI
 obtain ⟨i,done,hc,hi0,hdone,hw⟩:=hI
 refine C7 hw ?_
 clear hw
 by_cases hi:i<7
 ·have bi:=BL (k:= .i64) (decide_eq_true (show ((i:Nat):Int)<7 by omega))
  have hin:=BD (k:= .i64) (show (IntKind.i64).wrap ((i:Int)+1)=((i+1:Nat):Int) from IntWalk.i64_in _ (by omega))
  have hs:=Cq (k:= .i64) (show (IntKind.i64).wrap ((i:Int)-2)=(i:Int)-2 from IntWalk.i64_in _ (by omega))
  obtain ⟨x,u,v,hx0,hu,hv,J1⟩: ∃(x:Rat) (u v:Int),kn7[i]?=some x∧(if (2:Int)<(i:Int)-2 then 2 else (i:Int)-2)=u∧(if (0:Int)<u then u else 0)=v∧Ctr Tryz.prog Amb 59 [Au v] (nm 2 x):=by
   match i,hi with
   | 0,_=>exact ⟨0,-2,0,rfl,rfl,rfl,I0⟩
   | 1,_=>exact ⟨0,-1,0,rfl,rfl,rfl,I0⟩
   | 2,_=>exact ⟨0,0,0,rfl,rfl,rfl,I0⟩
   | 3,_=>exact ⟨1,1,1,rfl,rfl,rfl,I1⟩
   | 4,_=>exact ⟨2,2,2,rfl,rfl,rfl,I2⟩
   | 5,_=>exact ⟨2,2,2,rfl,rfl,rfl,I2⟩
   | 6,_=>exact ⟨2,2,2,rfl,rfl,rfl,I2⟩
  have hlt:done.length≤7:=by rw [hdone,List.length_take];omega
  have hnew:done++ [x]=kn7.take (i+1):=by rw [hdone,List.take_add_one,hx0];rfl
  clear I0 I1 I2 K1 G1 P1 T1 T2 hdone hx0 hx hy b4
  repeat (first|refine Aj ?_|refine Ae ?_|refine Ac rfl ?_|refine Ad rfl ?_|refine AW ?_|refine AX ?_|refine Ag ?_|refine Ah ?_)
  try refine Aj ?_
  refine Dr 7 (by simp only [List.take_succ_cons,List.take_zero,List.drop_succ_cons,List.drop_zero];exact ⟨rfl,rfl⟩) (by kernel_rfl) ?_
  repeat (first
   | refine BP (hl:=?_)
   | refine Aq (hl:=?_)
   | refine Ai (hl:=?_)
   | refine AA (hl:=?_)
   | refine AJ (hl:=?_)
   | refine Ak (hl:=?_)
   | refine BA (hl:=?_)
   | refine BB (hl:=?_)
   | refine AR (hl:=?_)
   | refine AO (hl:=?_)
   | refine AN (hl:=?_)
   | refine AP (hl:=?_)
   | refine AB (hl:=?_)
   | refine Av (hl:=?_)
   | refine BO (hl:=?_)
   | refine Ap hA (hc:=J1) (hl:=?_))
  apply Ab.nil
  refine Hq (k:=900) (ss:= [(2,Au (i:Nat))]) (bs:= []) (ns:=(nmC 2 x)) hD ?_ ?_ ?_
  ·exact ⟨by omega,by omega⟩
  ·exact BN
  repeat (refine FC rfl ?_;(first|refine Ai (hl:=?_)|refine Aq (hl:=?_)|refine Ay (hl:=?_));apply Ab.nil)
  refine FD ?_
  repeat (first|refine Aj ?_|refine Ae ?_|refine Ac rfl ?_|refine Ad rfl ?_|refine AW ?_|refine AX ?_|refine Ag ?_|refine Ah ?_)
  refine ⟨7-(i+1),by omega,i+1,done++ [x],rfl,by omega,hnew,?_⟩
  exact BN
 ·obtain rfl:i=7:=by omega
  replace hdone:done=kn7:=hdone
  subst hdone
  have bi:=BL (k:= .i64) (decide_eq_false (show ¬((7:Nat):Int)<7 by omega))
  repeat (first|refine Aj ?_|refine Ae ?_|refine Ac rfl ?_|refine Ad rfl ?_|refine AW ?_|refine AX ?_|refine Ag ?_|refine Ah ?_)
  refine Ek 900 hD (ss:= [(1,.one (BI 2 kn7))]) (bs:= []) ?_ ?_
  ·exact TE
  repeat (first
   | refine Aj ?_|refine Ae ?_|refine Ac rfl ?_|refine Ad rfl ?_
   | ((first|refine An (by kernel_rfl) ?_|refine Az (by kernel_rfl) (by kernel_rfl) (by kernel_rfl) ?_)
      repeat (first
       | refine BP (hl:=?_)
       | refine Aq (hl:=?_)
       | refine Ai (hl:=?_)
       | refine AA (hl:=?_)
       | refine AJ (hl:=?_)
       | refine Ak (hl:=?_)
       | refine BA (hl:=?_)
       | refine BB (hl:=?_)
       | refine AR (hl:=?_)
       | refine AO (hl:=?_)
       | refine AN (hl:=?_)
       | refine AP (hl:=?_)
       | refine AB (hl:=?_)
       | refine Av (hl:=?_)
       | refine BO (hl:=?_)
       | refine Ap hA (hc:=G1) (hl:=?_)
       | refine Ap hA (hc:=K1) (hl:=?_)
       | refine Ap hA (hc:=P1) (hl:=?_)
       | refine Ap hA (hc:=T1) (hl:=?_)
       | refine Ap hA (hc:=T2) (hl:=?_)
       | refine Cz (i:=1) hx (by omega) (hl:=?_)
       | refine Cz (i:=2) hy (by omega) (hl:=?_)
       | refine VZ (hl:=?_))
      apply Ab.nil;try refine And.intro (by kernel_rfl) ?_)
   | refine Ag ?_|refine Ah ?_)
  refine AU (And.intro (Or.inr rfl) ?_)
  exact Cw
attribute [local go_sem] Oper.semAt_some
set_option linter.unusedVariables false
set_option linter.unusedSimpArgs false
set_option maxRecDepth 100000
set_option maxHeartbeats 4000000
section
variable {P:Program} {X:Ctx} {ops l:List Oper} {σ:St} {K:List Eff→St→Prop} {dst:Option Tmp} {ty:TypeId} {pos:String} {af:Array Edge}
theorem E0 {op:Op} {g:Nat} {want:Bool} (hg:Gd ops σ.s g= .one (.v undef)) (hl:Ab P X ops l (σ.app dst Eo) (fun es σ'=>K (Eo::es) σ')):Ab P X ops (⟨dst,op,ty,pos,af,some (g,want)⟩::l) σ K:=
 .of (fun _ _ hl=>by
  refine .cons (e:=Eo) ?_ (fun p hp=>by cases hp) B7 hl
  have h:=hg
  unfold Gd at h
  split at h
  ·rename_i o ho
   split at h
   ·rename_i d hd
    exact ⟨o,ho,d,hd,.inr (.inr ⟨h,rfl⟩)⟩
   ·cases h
  ·cases h) hl
end
theorem F7 {V w1:World} {g:Nat} {vs:Array Value} {T:TypeId} (hA:Amb V) (hF:Fr V w1) (hB:w1.heap[g]?=some (.cells vs T (0,0))) (hn: ¬alive V g):
  ∃V',Amb V'∧Fr V' w1∧Ext V V'∧(∀q,alive V' q→q=g∨alive V q)∧V'.heap[g]?=some (.cells vs T (0,0)):=by
 refine ⟨frz V g (.cells vs T (0,0)),MonoA.up hA (F6 _ hn),fun q hq=>?_,F6 _ hn,fun q hq=>Dq hq,Gv _ _ _⟩
 rcases Dq hq with rfl|h
 ·rw [hB,Gv]
 ·rw [hF q h];exact ((F6 _ hn) q h).symm
theorem Jn {V w1:World} {g:Nat} {v:Value} {T:TypeId} {d:D} (h:V.heap[g]?=some (.cells #[v] T (0,0))) (hv:noL v) (hd:dd V w1 v d):cv V (fun _=>(0,0)) (fun _=>0) w1 (.pointer (some ⟨g,0,none⟩)) (.one (.fp [d])):=by
 have hc:V.cell? ⟨g,0,none⟩=some v:=by
  unfold World.cell?
  rw [h]
  rfl
 refine ⟨g,0,rfl,by simp,?_⟩
 unfold ddL
 exact ⟨⟨v,hc,hv,hd⟩,by unfold ddL;trivial⟩
theorem IQ {l:List Rat} {j:Nat} (hl:l.length≤1000000) {D:Nat→Prop} {w0 V:World} (hD: ∀g,D g→g<w0.heap.size) (hN:NoU D w0) (hA:Amb V) (hF:Fr V w0) (hal: ∀g,alive V g→ ¬D g) {pv:Value} (hpv:cv V (fun _=>(0,0)) (fun _=>0) w0 pv (.one (DI j l))) (n:Nat):
  SeqStopsK Fence.wide n Tryz.prog 199 #[pv] (Wv l) (KpC D) (fun xs=>xs=D3 l) (fun pre=>pre<+:D3 l) (D3 l).length w0:=fun l' J Jx W hW hJ hJx hY h0=>by
 have kk:=KpC.of_below hW hD
 exact callsIn_wide.2 (RP hl hA hal (fun g h=>Nat.lt_of_lt_of_le (hD g h) kk.size) (kk.row hN) (kk.fr hF hal) (hpv.mono (kk.kl hN) fun i hi=>absurd rfl hi) hJ hY h0)
def okR (n p:Nat) (x:Nat×Nat):Bool:=if 0<x.1∧x.2<n then decide (x.2-x.1≤p) else decide (x.2-x.1=p+1)
theorem OW {l:List Rat} {j p:Nat} (hl:l.length≤1000000) (hp:p≤1000) {W0 w:World} (hA:Amb W0) (hF:Fr W0 w) {ao:Option Addr} {cap:Nat} (hd:dd W0 w (.slice ao l.length cap) (.lst 3 l.length (l.flatMap (nmD j)))):
  CallsIn Fence.wide 6 Tryz.prog 154 #[.slice ao l.length cap,.int .i64 (p:Nat)] w fun e W'=>e= .returned (.bool ((D3 l).all fun x=>okR l.length p x.1))∧Below w.heap.size w W':=by
 refine callsIn_of_wp_marks Tryz.func154 rfl trivial ?_ rfl
 simp only [Tryz.ntmps154,List.size_toArray,List.length_cons,List.length_nil,Nat.reduceAdd,Nat.reduceSub,Array.replicate_succ,Array.replicate_zero,List.push_toArray,List.append_toArray,List.nil_append,List.cons_append]
 have hf1:Fence.wide.fn 133:=trivial
 have h1:1≤6:=by decide
 gi_wp2_with (gi_at_call 133;refine (Sm _ _ _ _ _).mono ?_;rintro e w' ⟨rfl,rfl⟩)
 obtain ⟨w1,hw1⟩: ∃w1,w1=((((w.alloc (.cells #[.slice ao l.length cap] 25)).alloc (.cells #[.int .i64 (p:Nat)] 3)).alloc (.cells #[.bool false] 4)).alloc (.cells #[.slice ao l.length cap] 25)):=⟨_,rfl⟩
 have hB0:Below w.heap.size w w1:=by rw [hw1];exact ((((Below.refl _ w).alloc (Nat.le_refl _) _).alloc (by simp) _).alloc (by simp<;>omega) _).alloc (by simp<;>omega) _
 have hs1:w1.heap.size=w.heap.size+1+1+1+1:=by rw [hw1];simp
 have hbx:w1.heap[w.heap.size+1+1+1]?=some (.cells #[.slice ao l.length cap] 25 (0,0)):=by
  rw [hw1]
  have:=World.alloc_heap_new (((w.alloc (.cells #[.slice ao l.length cap] 25)).alloc (.cells #[.int .i64 (p:Nat)] 3)).alloc (.cells #[.bool false] 4)) (.cells #[.slice ao l.length cap] 25)
  simpa using this
 have hg2:w1.heap[w.heap.size+1+1]?=some (.cells #[.bool false] 4 (0,0)):=by
  rw [hw1]
  have:=World.alloc_heap_new ((w.alloc (.cells #[.slice ao l.length cap] 25)).alloc (.cells #[.int .i64 (p:Nat)] 3)) (.cells #[.bool false] 4)
  rw [Below.heap_alloc _ _ _ (by simp)]
  simpa using this
 have hg0:w1.heap[w.heap.size]?=some (.cells #[.slice ao l.length cap] 25 (0,0)):=by
  rw [hw1,Below.heap_alloc _ _ _ (by simp<;>omega),Below.heap_alloc _ _ _ (by simp<;>omega),Below.heap_alloc _ _ _ (by simp)]
  exact World.alloc_heap_new w _
 have hg1:w1.heap[w.heap.size+1]?=some (.cells #[.int .i64 (p:Nat)] 3 (0,0)):=by
  rw [hw1,Below.heap_alloc _ _ _ (by simp<;>omega),Below.heap_alloc _ _ _ (by simp)]
  have:=World.alloc_heap_new (w.alloc (.cells #[.slice ao l.length cap] 25)) (.cells #[.int .i64 (p:Nat)] 3)
  simpa using this
 rw [←hw1]
 clear hw1
 have hkl:Kl w w1:=⟨hB0.size,fun g c e fz hg _=>hB0.block g (Array.getElem?_eq_some_iff.1 hg).1⟩
 have hlt0: ∀g,alive W0 g→g<w.heap.size:=fun g hg=>by
  have h:=hF _ hg
  obtain ⟨c,e,fz,h1,h2⟩:=hg
  exact (Array.getElem?_eq_some_iff.1 (h.trans h1)).1
 have hF1:Fr W0 w1:=fun g hg=>by
  rw [←hF g hg]
  exact hB0.block g (hlt0 g hg)
 obtain ⟨V1,hA1,hF2,he1,hal1,hc1⟩:=F7 hA hF1 hg0 fun h=>by have:=hlt0 _ h;omega
 have hn2: ¬alive V1 (w.heap.size+1):=fun h=>by
  rcases hal1 _ h with h|h
  ·omega
  ·have:=hlt0 _ h;omega
 obtain ⟨V2,hA2,hF3,he2,hal2,hc2⟩:=F7 hA1 hF2 hg1 hn2
 have hn3: ¬alive V2 (w.heap.size+1+1+1):=fun h=>by
  rcases hal2 _ h with h|h
  ·omega
  ·rcases hal1 _ h with h|h
   ·omega
   ·have:=hlt0 _ h;omega
 obtain ⟨V,hAV,hFV,he3,hal3,hc3⟩:=F7 hA2 hF3 hbx hn3
 have halV: ∀g,alive V g→g≠w.heap.size+1+1:=fun g h=>by
  rcases hal3 _ h with h|h
  ·omega
  ·rcases hal2 _ h with h|h
   ·omega
   ·rcases hal1 _ h with h|h
    ·omega
    ·have:=hlt0 _ h;omega
 have hsl:noL (Value.slice ao l.length cap):=⟨fun n e=>(by cases e),rfl⟩
 have hil:noL (Value.int .i64 (p:Nat)):=⟨fun n e=>(by cases e),rfl⟩
 have hdV:dd V w1 (.slice ao l.length cap) (.lst 3 l.length (l.flatMap (nmD j))):=dd.mono ((he1.trans he2).trans he3) hkl hd
 have hcell1:V.heap[w.heap.size]?=some (.cells #[.slice ao l.length cap] 25 (0,0)):=by
  have ha:alive V1 w.heap.size:=⟨_,_,_,hc1,by simp⟩
  rw [he3 _ (he2.alive ha),he2 _ ha]
  exact hc1
 have hcell2:V.heap[w.heap.size+1]?=some (.cells #[.int .i64 (p:Nat)] 3 (0,0)):=by
  have ha:alive V2 (w.heap.size+1):=⟨_,_,_,hc2,by simp⟩
  rw [he3 _ ha]
  exact hc2
 have hp2:cv V (fun _=>(0,0)) (fun _=>0) w1 (.pointer (some ⟨w.heap.size,0,none⟩)) (.one (DI j l)):=Jn hcell1 hsl hdV
 have hp3:cv V (fun _=>(0,0)) (fun _=>0) w1 (.pointer (some ⟨w.heap.size+1,0,none⟩)) (.one (.fp [.v (.int .i64 (p:Nat))])):=Jn hcell2 hil (by unfold dd;rfl)
 have hpr:cv V (fun _=>(0,0)) (fun _=>0) w1 (.pointer (some ⟨w.heap.size+1+1+1,0,none⟩)) (.one (DI j l)):=Jn hc3 hsl hdV
 have hseq:=IQ (D:=fun x=>x=w.heap.size+1+1) hl (fun g hg=>by omega) (fun k c e fz hk hh i n hi=>by
  subst hk
  rw [hg2] at hh
  cases hh
  have hi0:i=0:=by
   have:=(Array.getElem?_eq_some_iff.1 hi).1
   simpa using this
  subst hi0
  cases hi) hAV hFV halV hpr 5
 refine SQ (G:=fun pre=> ∀y∈pre,okR l.length p y.1=true) (val:=fun _=> .bool false) (Jm:=fun c pre v=>c= .ret∧v= .bool false∧ ∃y∈pre,okR l.length p y.1=false) (k0:=4) (N:=40) (V:=V) (gb:=w.heap.size+1+1)
  (ssx:=fun x=> [(2,.one (DI j l)),(3,.one (.fp [.v (.int .i64 (p:Nat))])),(4,.one (.ptr 4 0)),(5,Au (x.1.1:Nat)),(6,Au (x.1.2:Nat))])
  (a₁:=fun x=> { tmps:= #[.slice ao l.length cap,.int .i64 (p:Nat),.pointer (some ⟨w.heap.size,0,none⟩),.pointer (some ⟨w.heap.size+1,0,none⟩),.pointer (some ⟨w.heap.size+1+1,0,none⟩),.int .i64 (x.1.1:Nat),.int .i64 (x.1.2:Nat),undef,undef,.slice ao l.length cap,.func (.func 199) #[] #[.pointer (some ⟨w.heap.size+1+1+1,0,none⟩)],.int .i64 (x.1.1:Nat),.int .i64 (x.1.2:Nat),undef,undef,undef,undef,undef,undef,undef,undef,undef,undef,undef,undef,undef,undef,undef,undef,undef,undef,undef,undef,undef,undef,undef,undef,undef,undef,undef],defers:= [] })
  h1 rfl (enters_of Tryz.func199 (by kernel_rfl) rfl) hseq (fun _=>rfl) hFV hg2 (fun h=>halV _ h rfl) (fun _=>⟨fun n e=>(by cases e),rfl⟩) ?assign ?slots (fun y hy=>by cases hy) ?body ?done ?stop
 case assign=>
  intro l x W K hK
  gi_wp2
  exact hK
 case slots=>
  intro x
  refine ⟨rfl,rfl,fun W sz hFW hkW hz=>?_⟩
  exact List.forall_mem_cons.2 ⟨hp2.mono hkW fun i hi=>absurd rfl hi,List.forall_mem_cons.2 ⟨hp3.mono hkW fun i hi=>absurd rfl hi,List.forall_mem_cons.2 ⟨⟨rfl,hz⟩,List.forall_mem_cons.2 ⟨rfl,List.forall_mem_cons.2 ⟨rfl,Ao⟩⟩⟩⟩⟩
 case body=>
  rintro l' pre ⟨⟨x1,x2⟩,hx12,hx2⟩ W hG
  have hGn:okR l.length p (x1,x2)=true→ ∀y∈pre++ [⟨(x1,x2),hx12,hx2⟩],okR l.length p y.1=true:=fun h y hy=>by
   rcases List.mem_append.1 hy with h2|h2
   ·exact hG y h2
   ·rw [List.mem_singleton.1 h2];exact h
  have hGs:okR l.length p (x1,x2)=false→ ∃y∈pre++ [(⟨(x1,x2),hx12,hx2⟩:Rn l)],okR l.length p y.1=false:=fun h=>⟨_,List.mem_append.2 (.inr (List.mem_singleton.2 rfl)),h⟩
  have s1:=Cq (k:= .i64) (show (IntKind.i64).wrap ((x2:Int)-(x1:Int))=((x2-x1:Nat):Int) by rw [show ((x2:Int)-(x1:Int))=((x2-x1:Nat):Int) by omega];exact IntWalk.i64_in _ (by omega))
  have a1:=BD (k:= .i64) (show (IntKind.i64).wrap ((p:Int)+1)=((p+1:Nat):Int) from IntWalk.i64_in _ (by omega))
  by_cases h0:0<x1
  ·have b1:=DY (k:= .i64) (decide_eq_true (show ((x1:Nat):Int)>0 by omega))
   by_cases h2:x2<l.length
   ·have b2:=BL (k:= .i64) (decide_eq_true (show ((x2:Nat):Int)<((l.length:Nat):Int) by omega))
    by_cases h3:x2-x1≤p
    ·have b3:=DY (k:= .i64) (decide_eq_false (show ¬((x2-x1:Nat):Int)>((p:Nat):Int) by omega))
     have hk:okR l.length p (x1,x2)=true:=by unfold okR;rw [if_pos ⟨h0,h2⟩];exact decide_eq_true h3
     repeat (first
      | refine D6 ?_|refine CO ?_|refine CJ rfl ?_|refine CL rfl ?_
      | ((first|refine Ch (by kernel_rfl) ?_|refine CI (by kernel_rfl) (by kernel_rfl) (by kernel_rfl) ?_)
         repeat (first
          | refine BP (hl:=?_)
          | refine Aq (hl:=?_)
          | refine Ai (hl:=?_)
          | refine AA (hl:=?_)
          | refine Ay (hl:=?_)
          | refine Ct (hl:=?_)
          | refine AG (hl:=?_)
          | refine AJ (hl:=?_)
          | refine Cy (hl:=?_)
          | refine BA (hl:=?_)
          | refine BB (hl:=?_)
          | refine AO (hl:=?_)
          | refine AN (hl:=?_)
          | refine AP (hl:=?_)
          | refine AB (hl:=?_)
          | refine Av (hl:=?_)
          | (apply E0;(case hg=>exact rfl)))
         apply Ab.nil;try refine And.intro (by kernel_rfl) ?_)
      | refine Dh ?_|refine Di ?_)
     refine And.intro (hGn hk) ?_
     exact BN
    ·have b3:=DY (k:= .i64) (decide_eq_true (show ((x2-x1:Nat):Int)>((p:Nat):Int) by omega))
     have hk:okR l.length p (x1,x2)=false:=by unfold okR;rw [if_pos ⟨h0,h2⟩];exact decide_eq_false h3
     repeat (first
      | refine D6 ?_|refine CO ?_|refine CJ rfl ?_|refine CL rfl ?_
      | ((first|refine Ch (by kernel_rfl) ?_|refine CI (by kernel_rfl) (by kernel_rfl) (by kernel_rfl) ?_)
         repeat (first
          | refine BP (hl:=?_)
          | refine Aq (hl:=?_)
          | refine Ai (hl:=?_)
          | refine AA (hl:=?_)
          | refine Ay (hl:=?_)
          | refine Ct (hl:=?_)
          | refine AG (hl:=?_)
          | refine AJ (hl:=?_)
          | refine Cy (hl:=?_)
          | refine BA (hl:=?_)
          | refine BB (hl:=?_)
          | refine AO (hl:=?_)
          | refine AN (hl:=?_)
          | refine AP (hl:=?_)
          | refine AB (hl:=?_)
          | refine Av (hl:=?_)
          | (apply E0;(case hg=>exact rfl)))
         apply Ab.nil;try refine And.intro (by kernel_rfl) ?_)
      | refine Dh ?_|refine Di ?_)
     refine Hm (Exists.intro (Value.bool false) (And.intro (And.intro rfl (And.intro rfl (hGs hk))) ?_))
     exact BN
   ·have b2:=BL (k:= .i64) (decide_eq_false (show ¬((x2:Nat):Int)<((l.length:Nat):Int) by omega))
    by_cases h3:x2-x1=p+1
    ·have b3:=Gg (k:= .i64) (decide_eq_false (show ¬((x2-x1:Nat):Int)≠((p+1:Nat):Int) by omega))
     have hk:okR l.length p (x1,x2)=true:=by unfold okR;rw [if_neg (fun h=>h2 h.2)];exact decide_eq_true h3
     repeat (first
      | refine D6 ?_|refine CO ?_|refine CJ rfl ?_|refine CL rfl ?_
      | ((first|refine Ch (by kernel_rfl) ?_|refine CI (by kernel_rfl) (by kernel_rfl) (by kernel_rfl) ?_)
         repeat (first
          | refine BP (hl:=?_)
          | refine Aq (hl:=?_)
          | refine Ai (hl:=?_)
          | refine AA (hl:=?_)
          | refine Ay (hl:=?_)
          | refine Ct (hl:=?_)
          | refine AG (hl:=?_)
          | refine AJ (hl:=?_)
          | refine Cy (hl:=?_)
          | refine BA (hl:=?_)
          | refine BB (hl:=?_)
          | refine AO (hl:=?_)
          | refine AN (hl:=?_)
          | refine AP (hl:=?_)
          | refine AB (hl:=?_)
          | refine Av (hl:=?_)
          | (apply E0;(case hg=>exact rfl)))
         apply Ab.nil;try refine And.intro (by kernel_rfl) ?_)
      | refine Dh ?_|refine Di ?_)
     refine And.intro (hGn hk) ?_
     exact BN
    ·have b3:=Gg (k:= .i64) (decide_eq_true (show ((x2-x1:Nat):Int)≠((p+1:Nat):Int) by omega))
     have hk:okR l.length p (x1,x2)=false:=by unfold okR;rw [if_neg (fun h=>h2 h.2)];exact decide_eq_false h3
     repeat (first
      | refine D6 ?_|refine CO ?_|refine CJ rfl ?_|refine CL rfl ?_
      | ((first|refine Ch (by kernel_rfl) ?_|refine CI (by kernel_rfl) (by kernel_rfl) (by kernel_rfl) ?_)
         repeat (first
          | refine BP (hl:=?_)
          | refine Aq (hl:=?_)
          | refine Ai (hl:=?_)
          | refine AA (hl:=?_)
          | refine Ay (hl:=?_)
          | refine Ct (hl:=?_)
          | refine AG (hl:=?_)
          | refine AJ (hl:=?_)
          | refine Cy (hl:=?_)
          | refine BA (hl:=?_)
          | refine BB (hl:=?_)
          | refine AO (hl:=?_)
          | refine AN (hl:=?_)
          | refine AP (hl:=?_)
          | refine AB (hl:=?_)
          | refine Av (hl:=?_)
          | (apply E0;(case hg=>exact rfl)))
         apply Ab.nil;try refine And.intro (by kernel_rfl) ?_)
      | refine Dh ?_|refine Di ?_)
     refine Hm (Exists.intro (Value.bool false) (And.intro (And.intro rfl (And.intro rfl (hGs hk))) ?_))
     exact BN
  ·have b1:=DY (k:= .i64) (decide_eq_false (show ¬((x1:Nat):Int)>0 by omega))
   by_cases h3:x2-x1=p+1
   ·have b3:=Gg (k:= .i64) (decide_eq_false (show ¬((x2-x1:Nat):Int)≠((p+1:Nat):Int) by omega))
    have hk:okR l.length p (x1,x2)=true:=by unfold okR;rw [if_neg (fun h=>h0 h.1)];exact decide_eq_true h3
    repeat (first
     | refine D6 ?_|refine CO ?_|refine CJ rfl ?_|refine CL rfl ?_
     | ((first|refine Ch (by kernel_rfl) ?_|refine CI (by kernel_rfl) (by kernel_rfl) (by kernel_rfl) ?_)
        repeat (first
         | refine BP (hl:=?_)
         | refine Aq (hl:=?_)
         | refine Ai (hl:=?_)
         | refine AA (hl:=?_)
         | refine Ay (hl:=?_)
         | refine Ct (hl:=?_)
         | refine AG (hl:=?_)
         | refine AJ (hl:=?_)
         | refine Cy (hl:=?_)
         | refine BA (hl:=?_)
         | refine BB (hl:=?_)
         | refine AO (hl:=?_)
         | refine AN (hl:=?_)
         | refine AP (hl:=?_)
         | refine AB (hl:=?_)
         | refine Av (hl:=?_)
         | (apply E0;(case hg=>exact rfl)))
        apply Ab.nil;try refine And.intro (by kernel_rfl) ?_)
     | refine Dh ?_|refine Di ?_)
    refine And.intro (hGn hk) ?_
    exact BN
   ·have b3:=Gg (k:= .i64) (decide_eq_true (show ((x2-x1:Nat):Int)≠((p+1:Nat):Int) by omega))
    have hk:okR l.length p (x1,x2)=false:=by unfold okR;rw [if_neg (fun h=>h0 h.1)];exact decide_eq_false h3
    repeat (first
     | refine D6 ?_|refine CO ?_|refine CJ rfl ?_|refine CL rfl ?_
     | ((first|refine Ch (by kernel_rfl) ?_|refine CI (by kernel_rfl) (by kernel_rfl) (by kernel_rfl) ?_)
        repeat (first
         | refine BP (hl:=?_)
         | refine Aq (hl:=?_)
         | refine Ai (hl:=?_)
         | refine AA (hl:=?_)
         | refine Ay (hl:=?_)
         | refine Ct (hl:=?_)
         | refine AG (hl:=?_)
         | refine AJ (hl:=?_)
         | refine Cy (hl:=?_)
         | refine BA (hl:=?_)
         | refine BB (hl:=?_)
         | refine AO (hl:=?_)
         | refine AN (hl:=?_)
         | refine AP (hl:=?_)
         | refine AB (hl:=?_)
         | refine Av (hl:=?_)
         | (apply E0;(case hg=>exact rfl)))
        apply Ab.nil;try refine And.intro (by kernel_rfl) ?_)
     | refine Dh ?_|refine Di ?_)
    refine Hm (Exists.intro (Value.bool false) (And.intro (And.intro rfl (And.intro rfl (hGs hk))) ?_))
    exact BN
 case done=>
  rintro D ys W e hD rfl hne he hk hK
  have hB:Below w.heap.size w W:=⟨hk.os.trans hB0.os,hk.tape.trans hB0.tape,hk.output.trans hB0.output,Nat.le_trans hB0.size hk.size,fun k hlt=>(hk.block k (by omega) (by omega)).trans (hB0.block k hlt)⟩
  have hcr:W.cell? ⟨w.heap.size+1+1,0,none⟩=some (.bool false):=by simp [World.cell?,he]
  have hfr:W.frozen? ⟨w.heap.size+1+1,0,none⟩=false:=by simp [World.frozen?,he]
  gi_wp2
  have hK':=(KeepsOthers.setCell W ⟨w.heap.size+1+1,0,none⟩ (.bool true)).same D _ hK rfl
  refine ⟨by simp,.inl ⟨_,_,rfl,run_takeDeferred hK',?_⟩⟩
  have hc5:=cell_kept (World.cell?_setCell_same' W ⟨w.heap.size+1+1,0,none⟩ (.bool true) (by rw [hcr];rfl)) (grownBy_putObj' _ D (.deferred none)) (fun r e=>by cases e;exact ⟨_,hK',rfl⟩)
  refine ⟨.bool true,?_,by rw [show ((D3 l).all fun x=>okR l.length p x.1)=true from List.all_eq_true.2 fun y hy=>hne y hy],(hB.setCell (p:=⟨w.heap.size+1+1,0,none⟩) (show w.heap.size≤w.heap.size+1+1 by omega) _).trans (belowK_b (w:=w) (Xv _) _ D _ _ (by omega) hK' rfl rfl)⟩
  simp [results,Tryz.f154,go_sem,hc5]
 case stop=>
  rintro D c pre v W e hD hpre ⟨rfl,rfl,hin⟩ _ he hk hK
  have hB:Below w.heap.size w W:=⟨hk.os.trans hB0.os,hk.tape.trans hB0.tape,hk.output.trans hB0.output,Nat.le_trans hB0.size hk.size,fun k hlt=>(hk.block k (by omega) (by omega)).trans (hB0.block k hlt)⟩
  have hcr:W.cell? ⟨w.heap.size+1+1,0,none⟩=some (.bool false):=by simp [World.cell?,he]
  have hfalse:((D3 l).all fun x=>okR l.length p x.1)=false:=by
   obtain ⟨y,hy,h2⟩:=hin
   exact List.all_eq_false.2 ⟨y,hpre.subset hy,by rw [h2];exact Bool.false_ne_true⟩
  gi_wp2
  refine ⟨by simp,.inl ⟨_,_,rfl,run_takeDeferred hK,?_⟩⟩
  have hc5:=cell_kept hcr (grownBy_putObj' _ D (.deferred none)) (fun r e=>by cases e;exact ⟨_,hK,rfl⟩)
  refine ⟨.bool false,?_,by rw [hfalse],hB.trans (belowK_b (w:=w) (Xv _) W D _ _ (by omega) hK rfl rfl)⟩
  simp [results,Tryz.f154,go_sem,hc5]
theorem G4 {l:List Rat} {j p:Nat} (hl:l.length≤1000000) (hp:p≤1000):Ctr Tryz.prog Amb 154 [.one (BI j l),Au (p:Nat)] (.one (.v (.bool ((D3 l).all fun x=>okR l.length p x.1)))):=by
 intro W0 w μ sz vs hA hF hb hi hv
 obtain ⟨v0,v1,rfl⟩: ∃v0 v1,vs= [v0,v1]:=by
  match vs,hv.1 with
  | [a,b],_=>exact ⟨a,b,rfl⟩
 have d0:dd W0 w v0 (.lst 3 l.length (l.flatMap (nmD j))):=hv.2 0 v0 _ rfl rfl
 have e1:v1= .int .i64 (p:Nat):=hv.2 1 v1 _ rfl rfl
 subst e1
 obtain ⟨ao,cap,rfl⟩: ∃ao cap,v0= .slice ao l.length cap:=by
  unfold dd at d0
  obtain ⟨_,ao,cap,h,_⟩:=d0
  exact ⟨ao,cap,h⟩
 refine (callsIn_wide.1 (OW hl hp hA hF d0)).mono ?_
 rintro e w' ⟨rfl,hB⟩
 have hkp:Kp w w':=⟨hB.os,hB.tape,hB.output,hB.size,hB.block⟩
 exact ⟨_,W0,rfl,Kd.of_kp hkp,Gr.of_kp hF hkp,rfl,fun p hp=>by cases hp⟩
attribute [local go_sem] Oper.semAt_some
set_option linter.unusedVariables false
set_option linter.unusedSimpArgs false
set_option maxRecDepth 100000
set_option maxHeartbeats 4000000
def F9 (l:List Rat) (t:Rat) (x:Rn l):Prop:=x.1.2=l.length∨t<l.getD x.1.1 0
instance (l:List Rat) (t:Rat) (x:Rn l):Decidable (F9 l t x):=inferInstanceAs (Decidable (_∨_))
def ivA (l:List Rat) (t:Rat):List (Rn l)→Int→Int
 | [],i=>i
 | x::xs,i=>if F9 l t x then i else ivA l t xs ((x.1.2-1:Nat):Int)
def Nh {l:List Rat} :List (Rn l)→Int→Int
 | [],i=>i
 | x::xs,i=>Nh xs ((x.1.2-1:Nat):Int)
theorem Ng {l:List Rat} {x:Rn l} : ∀ {q:List (Rn l)} {i:Int},Nh (q++ [x]) i=((x.1.2-1:Nat):Int)
 | [],_=>rfl
 | _::q,_=>Ng (q:=q)
theorem OV {l:List Rat} {t:Rat} {r:List (Rn l)} : ∀ {q:List (Rn l)} {i:Int},(∀y∈q,¬F9 l t y)→ivA l t (q++r) i=ivA l t r (Nh q i)
 | [],_,_=>rfl
 | x::q,i,h=>by
   show (if F9 l t x then i else ivA l t (q++r) _)=_
   rw [if_neg (h x List.mem_cons_self),OV (q:=q) fun y hy=>h y (List.mem_cons_of_mem _ hy)]
   rfl
def ivI (l:List Rat) (t:Rat):Int:=ivA l t (D3 l) (-1)
theorem U6 {l:List Rat} {t:Rat} {q r:List (Rn l)} {y:Rn l} (h:q++ [y]++r=D3 l) (hq: ∀z∈q,¬F9 l t z) (hy:F9 l t y):ivI l t=Nh q (-1):=by
 unfold ivI
 rw [←h,List.append_assoc,OV hq]
 show (if F9 l t y then _ else _)=_
 rw [if_pos hy]
theorem U7 {l:List Rat} {t:Rat} (hq: ∀z∈D3 l,¬F9 l t z):ivI l t=Nh (D3 l) (-1):=by
 unfold ivI
 have:=OV (r:= []) (i:= -1) hq
 rw [List.append_nil] at this
 rw [this]
 rfl
theorem Vb {V w1:World} {g:Nat} {a b c:Value} {T:TypeId} {d e f:D} (h:V.heap[g]?=some (.cells #[a,b,c] T (0,0))) (ha:noL a) (hb:noL b) (hc:noL c) (hd:dd V w1 a d) (he:dd V w1 b e) (hf:dd V w1 c f):cv V (fun _=>(0,0)) (fun _=>0) w1 (.pointer (some ⟨g,0,none⟩)) (.one (.fp [d,e,f])):=by
 have c0:V.cell? ⟨g,0,none⟩=some a:=by unfold World.cell?;rw [h];rfl
 have c1:V.cell? ⟨g,1,none⟩=some b:=by unfold World.cell?;rw [h];rfl
 have c2:V.cell? ⟨g,2,none⟩=some c:=by unfold World.cell?;rw [h];rfl
 refine ⟨g,0,rfl,by simp,?_⟩
 unfold ddL ddL ddL
 exact ⟨⟨a,c0,ha,hd⟩,⟨b,c1,hb,he⟩,⟨c,c2,hc,hf⟩,by unfold ddL;trivial⟩
theorem Kd.frV {g:Nat} {V w1 W:World} (h:Kd (fun x=>x=g) w1 W) (hV:Fr V w1) (hna: ¬alive V g):Fr V W:=fun q hq=>by
 have h2:=hV q hq
 obtain ⟨c,e,fz,h3,h4⟩:=hq
 rw [←h2]
 exact h.block q (Array.getElem?_eq_some_iff.1 (h2.trans h3)).1 fun e=>hna (e▸⟨c,_,fz,h3,h4⟩)
theorem Kd.klV {g:Nat} {w1 W:World} {v:Value} {T:TypeId} (h:Kd (fun x=>x=g) w1 W) (hgb:w1.heap[g]?=some (.cells #[v] T (0,0))) (hv:noL v):Kl w1 W:=⟨h.size,fun q c e fz hq hu=>h.block q (Array.getElem?_eq_some_iff.1 hq).1 fun eq=>by
 subst eq
 rw [hgb] at hq
 cases hq
 obtain ⟨i,m,hi⟩:=hu
 have hi0:i=0:=by
  have:=(Array.getElem?_eq_some_iff.1 hi).1
  simpa using this
 subst hi0
 have:v= .int .u32 m:=by simpa using hi
 exact hv.1 m this⟩
theorem LI {x y:Rat} :Cm x y>0↔y<x:=by
 unfold Cm
 constructor
 ·intro h
  split at h
  ·exact absurd h (by decide)
  ·split at h
   ·assumption
   ·exact absurd h (by decide)
 ·intro h
  rw [if_neg (Rat.not_lt.2 (Rat.le_of_lt h)),if_pos h]
  decide
def ivR (l:List Rat) (t:Rat):List AV:=if ivI l t<0∨Ea l<t then [Au 0,Au 7] else [Au (ivI l t),Au 0]
theorem Nf {l:List Rat} {j jt:Nat} {t:Rat} {p:Int} (hl:l.length≤1000000) (hne:0<l.length) (hj:j≤1000000) (hjt:jt≤1000000) {W0 w:World} (hA:Amb W0) (hF:Fr W0 w) {ao:Option Addr} {cap:Nat} (hd:dd W0 w (.slice ao l.length cap) (.lst 3 l.length (l.flatMap (nmD j)))) {ta tb tc:Value} (hta:dd W0 w ta (.q t jt 0)) (htb:dd W0 w tb (.q t jt 1)) (htc:dd W0 w tc (.q t jt 2)) (na:noL ta) (nb:noL tb) (nc:noL tc):
  CallsIn Fence.wide 6 Tryz.prog 64 #[.slice ao l.length cap,.int .i64 p,.agg #[ta,tb,tc]] w fun e W'=>(∃a b:Int,ivR l t= [Au a,Au b]∧e= .returned (.tuple #[.int .i64 a,.int .i64 b]))∧Below w.heap.size w W':=by
 refine callsIn_of_wp_marks Tryz.func64 rfl trivial ?_ rfl
 simp only [Tryz.ntmps64,List.size_toArray,List.length_cons,List.length_nil,Nat.reduceAdd,Nat.reduceSub,Array.replicate_succ,Array.replicate_zero,List.push_toArray,List.append_toArray,List.nil_append,List.cons_append]
 have hf1:Fence.wide.fn 133:=trivial
 have h1:1≤6:=by decide
 gi_wp2_with (gi_at_call 133;refine (Sm _ _ _ _ _).mono ?_;rintro e w' ⟨rfl,rfl⟩)
 rename_i Q' K hK
 obtain ⟨w1,hw1⟩: ∃w1,w1=((((w.alloc (.cells #[.slice ao l.length cap] 25)).alloc (.cells #[ta,tb,tc] 34)).alloc (.cells #[.int .i64 (-1)] 3)).alloc (.cells #[.slice ao l.length cap] 25)):=⟨_,rfl⟩
 have hB0:Below w.heap.size w w1:=by rw [hw1];exact ((((Below.refl _ w).alloc (Nat.le_refl _) _).alloc (by simp) _).alloc (by simp;omega) _).alloc (by simp;omega) _
 have hs1:w1.heap.size=w.heap.size+1+1+1+1:=by rw [hw1];simp
 have hbx:w1.heap[w.heap.size+1+1+1]?=some (.cells #[.slice ao l.length cap] 25 (0,0)):=by
  rw [hw1]
  have:=World.alloc_heap_new (((w.alloc (.cells #[.slice ao l.length cap] 25)).alloc (.cells #[ta,tb,tc] 34)).alloc (.cells #[.int .i64 (-1)] 3)) (.cells #[.slice ao l.length cap] 25)
  simpa using this
 have hg2:w1.heap[w.heap.size+1+1]?=some (.cells #[.int .i64 (-1)] 3 (0,0)):=by
  rw [hw1]
  have:=World.alloc_heap_new ((w.alloc (.cells #[.slice ao l.length cap] 25)).alloc (.cells #[ta,tb,tc] 34)) (.cells #[.int .i64 (-1)] 3)
  rw [Below.heap_alloc _ _ _ (by simp)]
  simpa using this
 have hg0:w1.heap[w.heap.size]?=some (.cells #[.slice ao l.length cap] 25 (0,0)):=by
  rw [hw1,Below.heap_alloc _ _ _ (by simp<;>omega),Below.heap_alloc _ _ _ (by simp<;>omega),Below.heap_alloc _ _ _ (by simp)]
  exact World.alloc_heap_new w _
 have hg1:w1.heap[w.heap.size+1]?=some (.cells #[ta,tb,tc] 34 (0,0)):=by
  rw [hw1,Below.heap_alloc _ _ _ (by simp<;>omega),Below.heap_alloc _ _ _ (by simp)]
  have:=World.alloc_heap_new (w.alloc (.cells #[.slice ao l.length cap] 25)) (.cells #[ta,tb,tc] 34)
  simpa using this
 rw [←hw1]
 clear hw1
 have hkl:Kl w w1:=⟨hB0.size,fun g c e fz hg _=>hB0.block g (Array.getElem?_eq_some_iff.1 hg).1⟩
 have hlt0: ∀g,alive W0 g→g<w.heap.size:=fun g hg=>by
  have h:=hF _ hg
  obtain ⟨c,e,fz,h1,h2⟩:=hg
  exact (Array.getElem?_eq_some_iff.1 (h.trans h1)).1
 have hF1:Fr W0 w1:=fun g hg=>by
  rw [←hF g hg]
  exact hB0.block g (hlt0 g hg)
 obtain ⟨V1,hA1,hF2,he1,hal1,hc1⟩:=F7 hA hF1 hg0 fun h=>by have:=hlt0 _ h;omega
 have hn2: ¬alive V1 (w.heap.size+1):=fun h=>by
  rcases hal1 _ h with h|h
  ·omega
  ·have:=hlt0 _ h;omega
 obtain ⟨V2,hA2,hF3,he2,hal2,hc2⟩:=F7 hA1 hF2 hg1 hn2
 have hn3: ¬alive V2 (w.heap.size+1+1+1):=fun h=>by
  rcases hal2 _ h with h|h
  ·omega
  ·rcases hal1 _ h with h|h
   ·omega
   ·have:=hlt0 _ h;omega
 obtain ⟨V,hAV,hFV,he3,hal3,hc3⟩:=F7 hA2 hF3 hbx hn3
 have halV: ∀g,alive V g→g≠w.heap.size+1+1:=fun g h=>by
  rcases hal3 _ h with h|h
  ·omega
  ·rcases hal2 _ h with h|h
   ·omega
   ·rcases hal1 _ h with h|h
    ·omega
    ·have:=hlt0 _ h;omega
 have heV:Ext W0 V:=(he1.trans he2).trans he3
 have hsl:noL (Value.slice ao l.length cap):=⟨fun n e=>(by cases e),rfl⟩
 have hcell1:V.heap[w.heap.size]?=some (.cells #[.slice ao l.length cap] 25 (0,0)):=by
  have ha:alive V1 w.heap.size:=⟨_,_,_,hc1,by simp⟩
  rw [he3 _ (he2.alive ha),he2 _ ha]
  exact hc1
 have hcell2:V.heap[w.heap.size+1]?=some (.cells #[ta,tb,tc] 34 (0,0)):=by
  have ha:alive V2 (w.heap.size+1):=⟨_,_,_,hc2,by simp⟩
  rw [he3 _ ha]
  exact hc2
 have hp2:cv V (fun _=>(0,0)) (fun _=>0) w1 (.pointer (some ⟨w.heap.size,0,none⟩)) (.one (DI j l)):=Jn hcell1 hsl (dd.mono heV hkl hd)
 have hp3:cv V (fun _=>(0,0)) (fun _=>0) w1 (.pointer (some ⟨w.heap.size+1,0,none⟩)) (.one (.fp [.q t jt 0,.q t jt 1,.q t jt 2])):=Vb hcell2 na nb nc (dd.mono heV hkl hta) (dd.mono heV hkl htb) (dd.mono heV hkl htc)
 have hpr:cv V (fun _=>(0,0)) (fun _=>0) w1 (.pointer (some ⟨w.heap.size+1+1+1,0,none⟩)) (.one (DI j l)):=Jn hc3 hsl (dd.mono heV hkl hd)
 have hseq:=IQ (D:=fun x=>x=w.heap.size+1+1) hl (fun g hg=>by omega) (fun k c e fz hk hh i n hi=>by
  subst hk
  rw [hg2] at hh
  cases hh
  have hi0:i=0:=by
   have:=(Array.getElem?_eq_some_iff.1 hi).1
   simpa using this
  subst hi0
  cases hi) hAV hFV halV hpr 5
 have fin: ∀(D:Nat) (W:World) (e:TypeId) (I:Int),w1.heap.size≤D→I=ivI l t→W.heap[w.heap.size+1+1]?=some (.cells #[.int .i64 I] e (0,0))→Kd (fun x=>x=w.heap.size+1+1) w1 W→W.heap[D]?=some (.deferred (some []))→
   K { tmps:= #[.slice ao l.length cap,.int .i64 p,.agg #[ta,tb,tc],.pointer (some ⟨w.heap.size,0,none⟩),undef,.pointer (some ⟨w.heap.size+1,0,none⟩),.int .i64 0,.int .i64 0,.pointer (some ⟨w.heap.size+1+1,0,none⟩),undef,undef,.slice ao l.length cap,.func (.func 199) #[] #[.pointer (some ⟨w.heap.size+1+1+1,0,none⟩)],undef,undef,undef,undef,undef,undef,undef,undef,undef,undef,undef,undef,undef,undef,undef,undef,undef,undef,undef,undef,undef,undef,undef,undef,undef,undef,undef,undef,undef,undef,undef],defers:= [{ target:= .collected D,args:= #[] }] } W:=fun D W e I hD hI he hk hKD=>by
  have hB:Below w.heap.size w W:=⟨hk.os.trans hB0.os,hk.tape.trans hB0.tape,hk.output.trans hB0.output,Nat.le_trans hB0.size hk.size,fun k hlt=>(hk.block k (by omega) (by omega)).trans (hB0.block k hlt)⟩
  refine hK _ _ ?_
  have hna: ¬alive V (w.heap.size+1+1):=fun h=>halV _ h rfl
  have hFW:Fr V W:=hk.frV hFV hna
  have hkW:Kl w1 W:=hk.klV hg2 ⟨fun n e=>(by cases e),rfl⟩
  have hcn:CN (XB V W (w.heap.size+1+1) 8 44) (stL [(3,.one (DI j l)),(5,.one (.fp [.q t jt 0,.q t jt 1,.q t jt 2])),(8,.one (.ptr 8 0))] [(8,[.v (.int .i64 I)])]) { tmps:= #[.slice ao l.length cap,.int .i64 p,.agg #[ta,tb,tc],.pointer (some ⟨w.heap.size,0,none⟩),undef,.pointer (some ⟨w.heap.size+1,0,none⟩),.int .i64 0,.int .i64 0,.pointer (some ⟨w.heap.size+1+1,0,none⟩),undef,undef,.slice ao l.length cap,.func (.func 199) #[] #[.pointer (some ⟨w.heap.size+1+1+1,0,none⟩)],undef,undef,undef,undef,undef,undef,undef,undef,undef,undef,undef,undef,undef,undef,undef,undef,undef,undef,undef,undef,undef,undef,undef,undef,undef,undef,undef,undef,undef,undef,undef],defers:= [] } W:=
   TY hFW (Kd.refl _ _) rfl rfl he ⟨fun n e=>(by cases e),rfl⟩ hna (List.forall_mem_cons.2 ⟨hp2.mono hkW fun i hi=>absurd rfl hi,List.forall_mem_cons.2 ⟨hp3.mono hkW fun i hi=>absurd rfl hi,List.forall_mem_cons.2 ⟨⟨rfl,Nat.one_ne_zero⟩,Ao⟩⟩⟩)
  refine wpIn_mono (Q:=VG [{ target:= .collected D,args:= #[] }] (XB V W (w.heap.size+1+1) 8 44) fun e σ'=>e= .ret∧ ∃a b:Int,ivR l t= [Au a,Au b]∧Wk (XB V W (w.heap.size+1+1) 8 44) σ' [(6,Au a),(7,Au b)] [(8,[.v (.int .i64 I)])]) ?_ ?_
  ·refine (show Awf Tryz.prog none 6 [{ target:= .collected D,args:= #[] }] (XB V W (w.heap.size+1+1) 8 44) _ (stL [(3,.one (DI j l)),(5,.one (.fp [.q t jt 0,.q t jt 1,.q t jt 2])),(8,.one (.ptr 8 0))] [(8,[.v (.int .i64 I)])]) _ from ?_) _ W hcn
   have hA:=hAV
   by_cases hI0:I<0
   ·have b1:=BL (k:= .i64) (decide_eq_true hI0)
    repeat (first
     | refine D6 ?_|refine CO ?_|refine CJ rfl ?_|refine CL rfl ?_
     | ((first|refine Ch (by kernel_rfl) ?_|refine CI (by kernel_rfl) (by kernel_rfl) (by kernel_rfl) ?_)
        repeat (first
         | refine BP (hl:=?_)
         | refine Aq (hl:=?_)
         | refine Ai (hl:=?_)
         | refine AA (hl:=?_)
         | refine Ay (hl:=?_)
         | refine Ct (hl:=?_)
         | refine AG (hl:=?_)
         | refine AJ (hl:=?_)
         | refine Ak (hl:=?_)
         | refine BA (hl:=?_)
         | refine BB (hl:=?_)
         | refine AR (hl:=?_)
         | refine AO (hl:=?_)
         | refine AN (hl:=?_)
         | refine AP (hl:=?_)
         | refine AB (hl:=?_)
         | refine Av (hl:=?_))
        apply Ab.nil;try refine And.intro (by kernel_rfl) ?_)
     | refine Dh ?_|refine Di ?_)
    refine Hm (And.intro rfl (Exists.intro 0 (Exists.intro 7 (And.intro (by unfold ivR;rw [if_pos (.inl (hI▸hI0))]) ?_))))
    exact BN
   ·have b1:=BL (k:= .i64) (decide_eq_false hI0)
    have s1:=Cq (k:= .i64) (show (IntKind.i64).wrap ((l.length:Int)-1)=((l.length-1:Nat):Int) by rw [show ((l.length:Int)-1)=((l.length-1:Nat):Int) by omega];exact IntWalk.i64_in _ (by omega))
    have hx:l[((l.length-1:Nat):Int).toNat]?=some (Ea l):=by
     obtain ⟨x,h1,h2⟩:=CX (l:=l) (i:=l.length-1) (by omega)
     rw [h1]
     unfold Ea
     rw [DV h2]
    have C1:=NC (j:=j) (k:=jt) (x:=Ea l) (y:=t) (by omega) (by omega)
    by_cases h3:Ea l<t
    ·have b3:=BL (k:= .i64) (decide_eq_true (show Cm (Ea l) t<0 from Int.not_le.1 fun hh=>JB.1 hh h3))
     repeat (first
      | refine D6 ?_|refine CO ?_|refine CJ rfl ?_|refine CL rfl ?_
      | ((first|refine Ch (by kernel_rfl) ?_|refine CI (by kernel_rfl) (by kernel_rfl) (by kernel_rfl) ?_)
         repeat (first
          | refine BP (hl:=?_)
          | refine Aq (hl:=?_)
          | refine Ai (hl:=?_)
          | refine AA (hl:=?_)
          | refine Ay (hl:=?_)
          | refine Ct (hl:=?_)
          | refine AG (hl:=?_)
          | refine AJ (hl:=?_)
          | refine Ak (hl:=?_)
          | refine BA (hl:=?_)
          | refine BB (hl:=?_)
          | refine AR (hl:=?_)
          | refine AO (hl:=?_)
          | refine AN (hl:=?_)
          | refine AP (hl:=?_)
          | refine AB (hl:=?_)
          | refine Av (hl:=?_)
          | refine Ap hA (hc:=C1) (hl:=?_)
          | refine Cz hx (by omega) (hl:=?_))
         apply Ab.nil;try refine And.intro (by kernel_rfl) ?_)
      | refine Dh ?_|refine Di ?_)
     refine Hm (And.intro rfl (Exists.intro 0 (Exists.intro 7 (And.intro (by unfold ivR;rw [if_pos (.inr h3)]) ?_))))
     exact BN
    ·have hnot: ¬(ivI l t<0∨Ea l<t):=fun h=>by
      rcases h with h|h
      ·exact hI0 (hI▸h)
      ·exact h3 h
     have hr:ivR l t= [Au I,Au 0]:=by unfold ivR;rw [if_neg hnot,hI]
     have b3:=BL (k:= .i64) (decide_eq_false (show ¬Cm (Ea l) t<0 from Int.not_lt.2 (JB.2 h3)))
     repeat (first
      | refine D6 ?_|refine CO ?_|refine CJ rfl ?_|refine CL rfl ?_
      | ((first|refine Ch (by kernel_rfl) ?_|refine CI (by kernel_rfl) (by kernel_rfl) (by kernel_rfl) ?_)
         repeat (first
          | refine BP (hl:=?_)
          | refine Aq (hl:=?_)
          | refine Ai (hl:=?_)
          | refine AA (hl:=?_)
          | refine Ay (hl:=?_)
          | refine Ct (hl:=?_)
          | refine AG (hl:=?_)
          | refine AJ (hl:=?_)
          | refine Ak (hl:=?_)
          | refine BA (hl:=?_)
          | refine BB (hl:=?_)
          | refine AR (hl:=?_)
          | refine AO (hl:=?_)
          | refine AN (hl:=?_)
          | refine AP (hl:=?_)
          | refine AB (hl:=?_)
          | refine Av (hl:=?_)
          | refine Ap hA (hc:=C1) (hl:=?_)
          | refine Cz hx (by omega) (hl:=?_))
         apply Ab.nil;try refine And.intro (by kernel_rfl) ?_)
      | refine Dh ?_|refine Di ?_)
     refine Hm (And.intro rfl (Exists.intro I (Exists.intro 0 (And.intro hr ?_))))
     exact BN
  ·rintro ex a' w' ⟨a0,σ',rfl,⟨rfl,a,b,hab,hw⟩,hc⟩
   obtain ⟨W1,hg,μ,hcn'⟩:=hw.cn hc
   have hDlt:D<W.heap.size:=(Array.getElem?_eq_some_iff.1 hKD).1
   have hDne:D≠w.heap.size+1+1:=fun e=>by omega
   have hKD':w'.heap[D]?=some (.deferred (some [])):=(hcn'.kd.block D hDlt hDne).trans hKD
   have hB':Below w.heap.size w w':=⟨hcn'.kd.os.trans hB.os,hcn'.kd.tape.trans hB.tape,hcn'.kd.output.trans hB.output,Nat.le_trans hB.size hcn'.kd.size,fun k hlt=>(hcn'.kd.block k (Nat.lt_of_lt_of_le hlt hB.size) (by omega)).trans (hB.block k hlt)⟩
   have h6:a0.tmps.getD 6 undef= .int .i64 a:=hcn'.slot 6
   have h7:a0.tmps.getD 7 undef= .int .i64 b:=hcn'.slot 7
   refine ⟨by simp [wd],.inl ⟨_,_,rfl,run_takeDeferred hKD',?_⟩⟩
   refine ⟨.tuple #[.int .i64 a,.int .i64 b],?_,⟨a,b,hab,rfl⟩,hB'.trans (belowK_b (w:=w) (Xv _) w' D _ _ (by omega) hKD' rfl rfl)⟩
   rw [Array.getD_eq_getD_getElem?] at h6 h7
   simp [results,Tryz.f64,go_sem,wd,h6,h7]
 refine SQ (G:=fun pre=> ∀y∈pre,¬F9 l t y) (val:=fun pre=> .int .i64 (Nh pre (-1))) (Jm:=fun c pre v=>c= .exit 0∧ ∃q y,pre=q++ [y]∧F9 l t y∧(∀z∈q,¬F9 l t z)∧v= .int .i64 (Nh q (-1))) (k0:=8) (N:=44) (V:=V) (gb:=w.heap.size+1+1)
  (ssx:=fun x=> [(3,.one (DI j l)),(5,.one (.fp [.q t jt 0,.q t jt 1,.q t jt 2])),(8,.one (.ptr 8 0)),(9,Au (x.1.1:Nat)),(10,Au (x.1.2:Nat))])
  (a₁:=fun x=> { tmps:= #[.slice ao l.length cap,.int .i64 p,.agg #[ta,tb,tc],.pointer (some ⟨w.heap.size,0,none⟩),undef,.pointer (some ⟨w.heap.size+1,0,none⟩),.int .i64 0,.int .i64 0,.pointer (some ⟨w.heap.size+1+1,0,none⟩),.int .i64 (x.1.1:Nat),.int .i64 (x.1.2:Nat),.slice ao l.length cap,.func (.func 199) #[] #[.pointer (some ⟨w.heap.size+1+1+1,0,none⟩)],.int .i64 (x.1.1:Nat),.int .i64 (x.1.2:Nat),undef,undef,undef,undef,undef,undef,undef,undef,undef,undef,undef,undef,undef,undef,undef,undef,undef,undef,undef,undef,undef,undef,undef,undef,undef,undef,undef,undef,undef],defers:= [] })
  h1 rfl (enters_of Tryz.func199 (by kernel_rfl) rfl) hseq (fun _=>rfl) hFV hg2 (fun h=>halV _ h rfl) (fun _=>⟨fun n e=>(by cases e),rfl⟩) ?assign ?slots (fun y hy=>by cases hy) ?body ?done ?stop
 case assign=>
  intro l x W K hK
  gi_wp2
  exact hK
 case slots=>
  intro x
  refine ⟨rfl,rfl,fun W sz hFW hkW hz=>?_⟩
  exact List.forall_mem_cons.2 ⟨hp2.mono hkW fun i hi=>absurd rfl hi,List.forall_mem_cons.2 ⟨hp3.mono hkW fun i hi=>absurd rfl hi,List.forall_mem_cons.2 ⟨⟨rfl,hz⟩,List.forall_mem_cons.2 ⟨rfl,List.forall_mem_cons.2 ⟨rfl,Ao⟩⟩⟩⟩⟩
 case body=>
  rintro l' pre ⟨⟨x1,x2⟩,hx12,hx2⟩ W hG
  have hGn: ¬F9 l t ⟨(x1,x2),hx12,hx2⟩→ ∀y∈pre++ [⟨(x1,x2),hx12,hx2⟩],¬F9 l t y:=fun h y hy=>by
   rcases List.mem_append.1 hy with h2|h2
   ·exact hG y h2
   ·rw [List.mem_singleton.1 h2];exact h
  have s1:=Cq (k:= .i64) (show (IntKind.i64).wrap ((x2:Int)-1)=((x2-1:Nat):Int) by rw [show ((x2:Int)-1)=((x2-1:Nat):Int) by omega];exact IntWalk.i64_in _ (by omega))
  obtain ⟨x,hx,hx'⟩:=CX (l:=l) (i:=x1) (by omega)
  have hxd:l.getD x1 0=x:=DV hx'
  have C1:=NC (j:=j) (k:=jt) (x:=x) (y:=t) (by omega) (by omega)
  have hA:=hAV
  rw [Ng]
  obtain ⟨I0,hI0⟩: ∃I0,I0=Nh pre (-1):=⟨_,rfl⟩
  rw [←hI0]
  by_cases h0:x2=l.length
  ·have b1:=Fx (k:= .i64) (decide_eq_true (show ((x2:Nat):Int)=((l.length:Nat):Int) by omega))
   repeat (first
    | refine D6 ?_|refine CO ?_|refine CJ rfl ?_|refine CL rfl ?_
    | ((first|refine Ch (by kernel_rfl) ?_|refine CI (by kernel_rfl) (by kernel_rfl) (by kernel_rfl) ?_)
       repeat (first
        | refine BP (hl:=?_)
        | refine Aq (hl:=?_)
        | refine Ai (hl:=?_)
        | refine AA (hl:=?_)
        | refine Ay (hl:=?_)
        | refine Ct (hl:=?_)
        | refine AG (hl:=?_)
        | refine AJ (hl:=?_)
        | refine Ak (hl:=?_)
        | refine BA (hl:=?_)
        | refine BB (hl:=?_)
        | refine AR (hl:=?_)
        | refine AO (hl:=?_)
        | refine AN (hl:=?_)
        | refine AP (hl:=?_)
        | refine AB (hl:=?_)
        | refine Av (hl:=?_))
       apply Ab.nil;try refine And.intro (by kernel_rfl) ?_)
    | refine Dh ?_|refine Di ?_)
   refine Exists.intro (Value.int .i64 I0) (And.intro (And.intro rfl (Exists.intro pre (Exists.intro _ (And.intro rfl (And.intro (.inl h0) (And.intro hG (by rw [hI0]))))))) ?_)
   exact BN
  ·have b1:=Fx (k:= .i64) (decide_eq_false (show ¬((x2:Nat):Int)=((l.length:Nat):Int) by omega))
   by_cases h3:t<x
   ·have b3:=DY (k:= .i64) (decide_eq_true (show Cm x t>0 from LI.2 h3))
    repeat (first
     | refine D6 ?_|refine CO ?_|refine CJ rfl ?_|refine CL rfl ?_
     | ((first|refine Ch (by kernel_rfl) ?_|refine CI (by kernel_rfl) (by kernel_rfl) (by kernel_rfl) ?_)
        repeat (first
         | refine BP (hl:=?_)
         | refine Aq (hl:=?_)
         | refine Ai (hl:=?_)
         | refine AA (hl:=?_)
         | refine Ay (hl:=?_)
         | refine Ct (hl:=?_)
         | refine AG (hl:=?_)
         | refine AJ (hl:=?_)
         | refine Ak (hl:=?_)
         | refine BA (hl:=?_)
         | refine BB (hl:=?_)
         | refine AR (hl:=?_)
         | refine AO (hl:=?_)
         | refine AN (hl:=?_)
         | refine AP (hl:=?_)
         | refine AB (hl:=?_)
         | refine Av (hl:=?_)
         | refine Ap hA (hc:=C1) (hl:=?_)
         | refine Cz hx (by omega) (hl:=?_))
        apply Ab.nil;try refine And.intro (by kernel_rfl) ?_)
     | refine Dh ?_|refine Di ?_)
    refine Exists.intro (Value.int .i64 I0) (And.intro (And.intro rfl (Exists.intro pre (Exists.intro _ (And.intro rfl (And.intro (.inr (by rw [hxd];exact h3)) (And.intro hG (by rw [hI0]))))))) ?_)
    exact BN
   ·have b3:=DY (k:= .i64) (decide_eq_false (show ¬Cm x t>0 from fun h=>h3 (LI.1 h)))
    repeat (first
     | refine D6 ?_|refine CO ?_|refine CJ rfl ?_|refine CL rfl ?_
     | ((first|refine Ch (by kernel_rfl) ?_|refine CI (by kernel_rfl) (by kernel_rfl) (by kernel_rfl) ?_)
        repeat (first
         | refine BP (hl:=?_)
         | refine Aq (hl:=?_)
         | refine Ai (hl:=?_)
         | refine AA (hl:=?_)
         | refine Ay (hl:=?_)
         | refine Ct (hl:=?_)
         | refine AG (hl:=?_)
         | refine AJ (hl:=?_)
         | refine Ak (hl:=?_)
         | refine BA (hl:=?_)
         | refine BB (hl:=?_)
         | refine AR (hl:=?_)
         | refine AO (hl:=?_)
         | refine AN (hl:=?_)
         | refine AP (hl:=?_)
         | refine AB (hl:=?_)
         | refine Av (hl:=?_)
         | refine Ap hA (hc:=C1) (hl:=?_)
         | refine Cz hx (by omega) (hl:=?_))
        apply Ab.nil;try refine And.intro (by kernel_rfl) ?_)
     | refine Dh ?_|refine Di ?_)
    refine And.intro (hGn fun h=>?_) ?_
    ·rcases h with h|h
     ·exact h0 h
     ·exact h3 (by rw [←hxd];exact h)
    exact BN
 case done=>
  rintro D ys W e hD rfl hne he hk hKD
  exact fin D W e _ hD (U7 hne).symm he hk hKD
 case stop=>
  rintro D c pre v W e hD ⟨r,hpre⟩ ⟨rfl,q,y,rfl,hy,hq,rfl⟩ _ he hk hKD
  exact wpIn_exit (fin D W e _ hD (U6 hpre hq hy).symm he hk hKD)
theorem N8 {l:List Rat} {j jt:Nat} {t:Rat} {p:Int} (hl:l.length≤1000000) (hne:0<l.length) (hj:j≤1000000) (hjt:jt≤1000000):Ctr Tryz.prog Amb 64 [.one (BI j l),.one (.v (.int .i64 p)),nm jt t] (.tup (ivR l t)):=by
 intro W0 w μ sz vs hA hF hb hi hv
 obtain ⟨v0,v1,v2,rfl⟩: ∃v0 v1 v2,vs= [v0,v1,v2]:=by
  match vs,hv.1 with
  | [a,b,c],_=>exact ⟨a,b,c,rfl⟩
 have d0:dd W0 w v0 (.lst 3 l.length (l.flatMap (nmD j))):=hv.2 0 v0 _ rfl rfl
 have e1:v1= .int .i64 p:=hv.2 1 v1 _ rfl rfl
 have d2:cv W0 μ sz w v2 (nm jt t):=hv.2 2 v2 _ rfl rfl
 subst e1
 obtain ⟨ao,cap,rfl⟩: ∃ao cap,v0= .slice ao l.length cap:=by
  unfold dd at d0
  obtain ⟨_,ao,cap,h,_⟩:=d0
  exact ⟨ao,cap,h⟩
 obtain ⟨q,rfl,hq⟩:=d2
 obtain ⟨ta,tb,tc,rfl⟩: ∃a b c,q= [a,b,c]:=by
  match q,hq.1 with
  | [a,b,c],_=>exact ⟨a,b,c,rfl⟩
 have ha:cc W0 μ sz w ta (.q t jt 0):=hq.2 0 ta _ rfl rfl
 have hbb:cc W0 μ sz w tb (.q t jt 1):=hq.2 1 tb _ rfl rfl
 have hcc:cc W0 μ sz w tc (.q t jt 2):=hq.2 2 tc _ rfl rfl
 refine (callsIn_wide.1 (Nf hl hne hj hjt hA hF d0 (by unfold dd;exact ha) (by unfold dd;exact hbb) (by unfold dd;exact hcc) (ha.noL trivial) (hbb.noL trivial) (hcc.noL trivial))).mono ?_
 rintro e w' ⟨⟨a,b,hab,rfl⟩,hB⟩
 have hkp:Kp w w':=⟨hB.os,hB.tape,hB.output,hB.size,hB.block⟩
 refine ⟨_,W0,rfl,Kd.of_kp hkp,Gr.of_kp hF hkp,?_,fun p hp=>by cases hp⟩
 rw [hab]
 exact ⟨_,rfl,rfl,fun i x y hx hy=>by
  match i with
  | 0=>simp at hx hy;subst hx;subst hy;rfl
  | 1=>simp at hx hy;subst hx;subst hy;rfl
  | i+2=>simp at hx⟩
end Go.Proofs.YtfineedhebhpaaaGreatDoor
