/-
  Several texts in one: Inv, RatR.
-/
import Derived.Test.YtfineedhebhpaaaGreatDoorBa
import Derived.Deep.RegionHeld3
namespace Go.Proofs.YtfineedhebhpaaaGreatDoor
section
variable {P:Program} {ops:Array Oper} {Q:Exit→Act→World→Prop} {I:(Nat→Bool)→Act→World→Prop}
def up (b:Nat→Bool) (i:Nat):Nat→Bool:=fun j=>j==i || b j
def DR (L:Array Bool):Nat→Bool:=fun j=>L.getD j false
theorem Wn (L:Array Bool) (i:Nat) (h:i<L.size):DR (L.setIfInBounds i true)=up (DR L) i:=by
 funext j
 unfold DR up
 by_cases hij:j=i
 ·subst hij;simp [Array.getD_eq_getD_getElem?,h]
 ·have:(j==i)=false:=by simpa using hij
  rw [this,Bool.false_or]
  exact getD_set_ne false (Ne.symm hij)
def CX (o:Oper):List Nat:=(o.after.toList.filter (Region.binds .any)).map (·.on)
def WO (P:Program) (ops:Array Oper) (Q:Exit→Act→World→Prop) (I:(Nat→Bool)→Act→World→Prop) (i:Nat):Prop:=
 ∀(o:Oper),ops[i]?=some o→ ∀(b:Nat→Bool) (a:Act) (w:World),b i=false→(∀d∈CX o,b d=true)→I b a w→wpOp P ops Q i (I (up b i)) a w
theorem R8 {o:Oper} {e:Edge} (he:e∈o.after) (hb:Region.binds .any e=true):e.on∈CX o:=
 List.mem_map.2 ⟨e,List.mem_filter.2 ⟨Array.mem_toList_iff.2 he,hb⟩,rfl⟩
theorem TZ {o:Oper} {d:Nat} (h:d∈CX o): ∃e∈o.after,Region.binds .any e=true∧e.on=d:=by
 obtain ⟨e,he,rfl⟩:=List.mem_map.1 h
 obtain ⟨h1,h2⟩:=List.mem_filter.1 he
 exact ⟨e,Array.mem_toList_iff.1 h1,h2,rfl⟩
theorem Sf {L:Array Bool} {i:Nat} (h:L.getD i false=false) (hi:i<L.size):L.getD i true=false:=by
 simp [Array.getD,hi] at h⊢;exact h
theorem UX (hdag: ∀(i:Nat) (o:Oper),ops[i]?=some o→ ∀d∈CX o,d<i) {L:Array Bool} (hL:L.size=ops.size)
  (hr:Region.ready .any ops L= []): ∀i,i<ops.size→DR L i=true:=by
 intro i
 induction i using Nat.strongRecOn with
 | ind i ih=>
   intro hi
   cases hb:DR L i with
   | true=>rfl
   | false=>
     exfalso
     have:i∈Region.ready .any ops L:=by
      rw [mem_ready]
      refine ⟨Sf hb (by rw [hL];exact hi),ops[i],Array.getElem?_eq_getElem hi,fun e he hbd=>?_⟩
      have hlt:=hdag i _ (Array.getElem?_eq_getElem hi) _ (R8 he hbd)
      exact ih e.on hlt (Nat.lt_trans hlt hi)
     rw [hr] at this
     cases this
theorem Ss {l:List Bool} : ∀ {i:Nat},l[i]?=some false→(l.set i true).count false+1=l.count false:=by
 induction l with
 | nil=>intro i h;simp at h
 | cons x l ih=>
   intro i h
   cases i with
   | zero=>
     simp at h
     subst h
     simp
   | succ i=>
     simp at h
     have:=ih h
     simp only [List.set_cons_succ,List.count_cons]
     omega
theorem Kv (hs: ∀i,i<ops.size→WO P ops Q I i) (hdag: ∀(i:Nat) (o:Oper),ops[i]?=some o→ ∀d∈CX o,d<i)
  (hend: ∀b a w,(∀i,i<ops.size→b i=true)→I b a w→Q .normal a w):
  ∀(fuel:Nat) (L:Array Bool) (a:Act) (w:World),L.size=ops.size→L.toList.count false≤fuel→I (DR L) a w→wpAny P .any ops Q fuel L a w:=by
 intro fuel
 induction fuel with
 | zero=>
   intro L a w hL hc hI
   have hr:Region.ready .any ops L= []:=by
    cases h:Region.ready .any ops L with
    | nil=>rfl
    | cons i rs=>
      exfalso
      have hi:i∈Region.ready .any ops L:=by rw [h];exact List.mem_cons_self
      obtain ⟨h0,o,ho,_⟩:=mem_ready.1 hi
      have hlt:i<L.size:=by rw [hL];exact (Array.getElem?_eq_some_iff.1 ho).1
      have hf:false∈L.toList:=by
       have h1:L[i]=false:=by simpa [Array.getD,hlt] using h0
       rw [←h1]
       exact Array.mem_toList_iff.2 (Array.getElem_mem hlt)
      have:=List.count_pos_iff.2 hf
      omega
   exact ⟨hr,hend _ _ _ (UX hdag hL hr) hI⟩
 | succ fuel ih=>
   intro L a w hL hc hI
   refine ⟨fun hr=>hend _ _ _ (UX hdag hL hr) hI,fun i hi=>?_⟩
   obtain ⟨h0,o,ho,hall⟩:=mem_ready.1 hi
   have hlt:i<ops.size:=(Array.getElem?_eq_some_iff.1 ho).1
   have hltL:i<L.size:=by rw [hL];exact hlt
   have h1:L[i]=false:=by simpa [Array.getD,hltL] using h0
   have hb:DR L i=false:=by simp [DR,Array.getD,hltL,h1]
   refine wpOp_mono (fun a' w' hI'=>?_) (hs i hlt o ho (DR L) a w hb (fun d hd=>?_) hI)
   ·refine ih (L.setIfInBounds i true) a' w' (by rw [Array.size_setIfInBounds];exact hL) ?_ (by rw [Wn L i hltL];exact hI')
    rw [Array.toList_setIfInBounds]
    have:=Ss (l:=L.toList) (i:=i) (by rw [Array.getElem?_toList,Array.getElem?_eq_getElem hltL,h1])
    omega
   ·obtain ⟨e,he,hbd,rfl⟩:=TZ hd
    exact hall e he hbd
def N9 (l:List Oper):Bool:=(List.range l.length).all fun i=>match l[i]? with|some o=>(CX o).all (· <i)|none=>true
theorem UH {l:List Oper} (h:N9 l=true) (i:Nat) (o:Oper) (ho:l.toArray[i]?=some o) (d:Nat) (hd:d∈CX o):d<i:=by
 rw [List.getElem?_toArray] at ho
 have hi:i<l.length:=(List.getElem?_eq_some_iff.1 ho).1
 unfold N9 at h
 rw [List.all_eq_true] at h
 have:=h i (List.mem_range.2 hi)
 rw [ho] at this
 simp only [List.all_eq_true,decide_eq_true_eq] at this
 exact this d hd
def Yh (f:Nat→Value) (i:Nat) (v:Value):Nat→Value:=fun j=>if j=i then v else f j
def U4 (P:Program) (l:List Oper) (Q:Exit→Act→World→Prop) (F:(Nat→Value)→Act) (J:(Nat→Bool)→(Nat→Value)→World→Prop) (i:Nat) (o:Oper):Prop:=
 ∀b f w,b i=false→(∀d∈CX o,b d=true)→J b f w→ ∀K:Act→World→Prop,Shut (∀a' v w',a'=(F f).put o.dst v→J (up b i) (Yh f i v) w'→K a' w')→
  if Region.wanted o (yielded l.toArray (F f).tmps)=true then Oper.wp P o (F f) w K Q else K ((F f).put o.dst undef) w
def FN (P:Program) (l:List Oper) (Q:Exit→Act→World→Prop) (F:(Nat→Value)→Act) (J:(Nat→Bool)→(Nat→Value)→World→Prop):Nat→List Oper→Prop
 | _,[]=>True
 | k,o::r=>U4 P l Q F J k o∧FN P l Q F J (k+1) r
theorem FN.nil {l:List Oper} {F:(Nat→Value)→Act} {J:(Nat→Bool)→(Nat→Value)→World→Prop} {k:Nat} :FN P l Q F J k []:=trivial
theorem FN.cons {l:List Oper} {F:(Nat→Value)→Act} {J:(Nat→Bool)→(Nat→Value)→World→Prop} {k:Nat} {o:Oper} {r:List Oper} (h:U4 P l Q F J k o) (hs:FN P l Q F J (k+1) r):FN P l Q F J k (o::r):=⟨h,hs⟩
theorem FN.get {l:List Oper} {F:(Nat→Value)→Act} {J:(Nat→Bool)→(Nat→Value)→World→Prop} : ∀ {r:List Oper} {k i:Nat} {o:Oper},FN P l Q F J k r→r[i]?=some o→U4 P l Q F J (k+i) o
 | [],_,_,_,_,h=>by simp at h
 | o'::r,k,0,o,hs,h=>by simp at h;subst h;exact hs.1
 | o'::r,k,i+1,o,hs,h=>by
   have:=FN.get hs.2 (i:=i) (o:=o) (by simpa using h)
   rw [show k+1+i=k+(i+1) from by omega] at this
   exact this
end
end Go.Proofs.YtfineedhebhpaaaGreatDoor
