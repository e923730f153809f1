/-
  Several texts in one: Na, Za, Au, Zae.
-/
import Derived.Test.YtfineedhebhpaaaGreatDoorGk
import Derived.Test.YtfineedhebhpaaaGreatDoorEv
import Derived.Test.YtfineedhebhpaaaGreatDoorHz
namespace Go.Proofs.YtfineedhebhpaaaGreatDoor
open Nat renaming le_refl→Yu
open List renaming getElem?_eq_getElem→Yv
open Go.RowKit
set_option linter.unusedVariables false
set_option linter.unusedSimpArgs false
set_option maxRecDepth 20000
set_option maxHeartbeats 4000000
abbrev nmD (j:Nat) (x:Rat):List D:= [.q x j 0,.q x j 1,.q x j 2]
abbrev AH (j:Nat) (l:List Rat):C:=lsG 3 (nmD j) l
instance (j:Nat):Elm 3 (nmD j):=⟨fun _=>rfl,fun _=>rfl⟩
theorem Xs {W0 w:World} {x:Value} {r:Rat} {j k i:Nat} (h:j≤k) (hd:dd W0 w x (.q r j i)):dd W0 w x (.q r k i):=by
 unfold dd at hd⊢
 match i,hd with
 | 0,hd=>exact ⟨hd.1,Nat.zero_le _⟩
 | 1,hd=>exact ⟨hd.1,Nat.le_trans hd.2 h⟩
 | _+2,hd=>exact ⟨hd.1,Nat.le_trans hd.2 h⟩
theorem WC {W0 w:World} {b j k:Nat} (h:j≤k): ∀ {l:List Rat} {off:Nat},ddL W0 w b off (l.flatMap (nmD j))→ddL W0 w b off (l.flatMap (nmD k))
 | [],_,hd=>hd
 | x::l,off,hd=>by
   rw [List.flatMap_cons] at hd⊢
   show ddL W0 w b off (.q x k 0:: .q x k 1:: .q x k 2::l.flatMap (nmD k))
   replace hd:ddL W0 w b off (.q x j 0:: .q x j 1:: .q x j 2::l.flatMap (nmD j)):=hd
   simp only [ddL] at hd⊢
   obtain ⟨⟨v0,a0,a1,a2⟩,⟨v1,b0,b1,b2⟩,⟨v2,c0,c1,c2⟩,r⟩:=hd
   exact ⟨⟨v0,a0,a1,Xs h a2⟩,⟨v1,b0,b1,Xs h b2⟩,⟨v2,c0,c1,Xs h c2⟩,WC h r⟩
theorem Af.ratsLe {j k:Nat} {l:List Rat} (h:j≤k):Af (AH j l) (AH k l):=fun W0 μ sz w x hx=>by
 unfold cc dd at hx⊢
 obtain ⟨h0,ao,cap,h1,h2,h3⟩:=hx
 refine ⟨Fs (f:=nmD k) (es:=3) (fun _=>rfl) l,ao,cap,h1,h2,fun hne=>?_⟩
 have hne':l.flatMap (nmD j)≠ []:=fun h0=>by
  cases l with
  | nil=>exact hne rfl
  | cons a l=>cases h0
 obtain ⟨b,off,h4,h5⟩:=h3 hne'
 exact ⟨b,off,h4,WC h h5⟩
theorem Af.ratsNil {j:Nat} :Af (.v (.slice none 0 0)) (AH j []):=fun W0 μ sz w x hx=>by
 have hx:x= .slice none 0 0:=hx
 unfold cc dd
 exact ⟨rfl,none,0,hx,Yu _,fun h=>absurd rfl h⟩
theorem QF {k:Nat} {x:Rat} (h:Sz k x.den):(toL (JW x)).length≤k:=by
 unfold JW
 split
 ·simp [toL]
 ·exact h
theorem Af.qs {x:Rat} {j k i:Nat} (h:RSz k x):Af (.q x j i) (.q x k i):=fun _ _ _ _ _ hv=>by
 match i with
 | 0=>exact ⟨hv.1,Nat.zero_le _⟩
 | 1=>exact ⟨hv.1,h.1⟩
 | _+2=>exact ⟨hv.1,QF h.2⟩
theorem Af.qe {x y:Rat} {j k i:Nat} (e:x=y) (h:RSz k y):Af (.q x j i) (.q y k i):=e▸Af.qs (e▸h)
theorem WL {k:IntKind} {a b:Int} {c:Bool} (h:decide (a≠b)=c):Gl .neq k a b=some (.bool c):=by
 rw [←h]
 show some (Value.bool (a !=b))=_
 congr 2
 by_cases hab:a=b<;>simp [hab]
theorem Ji {j k:Nat} {l m:List Rat} (h1:l.length≤1000000000) (h2:m.length≤1000000000):
  Ctr Tryz.prog Amb 21 [.one (AH j l),.one (AH k m)] (.one (.v (.bool (decide (l=m))))):=by
 by_cases hlm:l.length=m.length
 ·have b0:=WL (k:= .i64) (a:=(l.length:Int)) (b:=(m.length:Int)) (decide_eq_false (show ¬(l.length:Int)≠(m.length:Int) by omega))
  refine Aj Tryz.func21 rfl rfl rfl rfl rfl rfl ?_
  intro W0 base D μ0 hA hD
  repeat (first
   | refine Ag ?_|refine Ac ?_|refine Aa rfl ?_|refine Ab rfl ?_
   | ((first|refine AQ (by kernel_rfl) ?_|refine BO (by kernel_rfl) (by kernel_rfl) (by kernel_rfl) ?_)
      repeat (first
       | refine AK (hl:=?_)
       | refine As (hl:=?_)
       | refine BB (hl:=?_)
       | refine BN (hl:=?_)
       | refine AT (hl:=?_)
       | refine Dx (hl:=?_)
       | refine B7 (hl:=?_)
       | refine B6 (hl:=?_)
       | refine B8 (hl:=?_)
       | refine Dp (hl:=?_)
       | refine AY (hl:=?_))
      apply Ah.nil;try refine And.intro (by kernel_rfl) ?_)
   | refine Ad ?_|refine Ae ?_)
  refine AW (fun n σ=> ∃i:Nat,n+i=l.length∧l.take i=m.take i∧Wk ⟨W0,base,D,27,[],μ0⟩ σ [(0,.one (AH j l)),(1,.one (AH k m)),(5,.one (.v (.int .i64 (i:Nat))))] []) (n:=l.length) ⟨0,by omega,by simp,?_⟩ ?_
  ·refine Cu ?_ ?_ rfl
   ·repeat (first|exact Ak|(refine List.forall_mem_cons.2 ⟨?_,?_⟩;focus (first|exact Ent.of_eq rfl|(refine Ent.one' rfl ?_;(first|exact Af.ratsLe (by omega)|exact Af.ratsNil|exact Af.glNil|(refine Af.int ?_;omega)|(refine Af.glLen ?_;first|omega|simp)|exact Af.of_eq rfl|(refine Af.q rfl ?_;omega)|exact Z0 _|exact Z2 _|exact Af.z0 (k:=0)|exact Af.z1 (k:=0)|exact Af.z2 (k:=0)|exact Af.z0|exact Af.z1|exact Af.z2))|(refine Ent.agg' rfl ?_;(repeat (first|exact EntL.nil' rfl|(refine EntL.cons' rfl ?_ ?_;focus (first|exact Af.ratsLe (by omega)|exact Af.ratsNil|exact Af.glNil|(refine Af.int ?_;omega)|(refine Af.glLen ?_;first|omega|simp)|exact Af.of_eq rfl|(refine Af.q rfl ?_;omega)|exact Z0 _|exact Z2 _|exact Af.z0 (k:=0)|exact Af.z1 (k:=0)|exact Af.z2 (k:=0)|exact Af.z0|exact Af.z1|exact Af.z2))));done))))
   ·repeat (first|exact Ak|(refine List.forall_mem_cons.2 ⟨?_,?_⟩;focus (first|exact AN inferInstance|(refine AG rfl ?_ rfl;focus ((repeat (first|exact EntL.nil' rfl|(refine EntL.cons' rfl ?_ ?_;focus (first|exact Af.ratsLe (by omega)|exact Af.ratsNil|exact Af.glNil|(refine Af.int ?_;omega)|(refine Af.glLen ?_;first|omega|simp)|exact Af.of_eq rfl|(refine Af.q rfl ?_;omega)|exact Z0 _|exact Z2 _|exact Af.z0 (k:=0)|exact Af.z1 (k:=0)|exact Af.z2 (k:=0)|exact Af.z0|exact Af.z1|exact Af.z2))));done)))))
  intro n σ hI
  obtain ⟨i,hn,ht,hw⟩:=hI
  refine A8 hw ?_
  clear hw
  by_cases hi:i<l.length
  ·have bi:=AS (k:= .i64) (decide_eq_true (show (i:Int)<(l.length:Int) by omega))
   obtain ⟨x,hx⟩: ∃x,l[((i:Nat):Int).toNat]?=some x:=⟨_,by rw [Int.toNat_natCast];exact Yv hi⟩
   obtain ⟨y,hy⟩: ∃y,m[((i:Nat):Int).toNat]?=some y:=⟨_,by rw [Int.toNat_natCast];exact Yv (show i<m.length by omega)⟩
   have hin:=BW (k:= .i64) (show (IntKind.i64).wrap ((i:Int)+1)=((i+1:Nat):Int) from IntWalk.i64_in _ (by omega))
   have S1:=LN (j:=j) (k:=k) (x:=x) (y:=y)
   have hx':=hx
   have hy':=hy
   rw [Int.toNat_natCast] at hx' hy'
   by_cases hxy:x=y
   ·rw [decide_eq_true hxy] at S1
    repeat (first
     | refine Ag ?_|refine Ac ?_|refine Aa rfl ?_|refine Ab rfl ?_
     | ((first|refine AQ (by kernel_rfl) ?_|refine BO (by kernel_rfl) (by kernel_rfl) (by kernel_rfl) ?_)
        repeat (first
         | refine AK (hl:=?_)
         | refine As (hl:=?_)
         | refine BB (hl:=?_)
         | refine BN (hl:=?_)
         | refine AT (hl:=?_)
         | refine Dx (hl:=?_)
         | refine B7 (hl:=?_)
         | refine B6 (hl:=?_)
         | refine B8 (hl:=?_)
         | refine Dp (hl:=?_)
         | refine AY (hl:=?_)
         | refine FO hx (by omega) (hl:=?_)
         | refine FO hy (by omega) (hl:=?_)
         | refine AD hA (hc:=S1) (hl:=?_))
        apply Ah.nil;try refine And.intro (by kernel_rfl) ?_)
     | refine Ad ?_|refine Ae ?_)
    refine ⟨n-1,by omega,i+1,by omega,?_,?_⟩
    ·rw [List.take_add_one,List.take_add_one,ht,hx',hy',hxy]
    ·refine Cu ?_ ?_ rfl
     ·repeat (first|exact Ak|(refine List.forall_mem_cons.2 ⟨?_,?_⟩;focus (first|exact Ent.of_eq rfl|(refine Ent.one' rfl ?_;(first|exact Af.ratsLe (by omega)|exact Af.ratsNil|exact Af.glNil|(refine Af.int ?_;omega)|(refine Af.glLen ?_;first|omega|simp)|exact Af.of_eq rfl|(refine Af.q rfl ?_;omega)|exact Z0 _|exact Z2 _|exact Af.z0 (k:=0)|exact Af.z1 (k:=0)|exact Af.z2 (k:=0)|exact Af.z0|exact Af.z1|exact Af.z2))|(refine Ent.agg' rfl ?_;(repeat (first|exact EntL.nil' rfl|(refine EntL.cons' rfl ?_ ?_;focus (first|exact Af.ratsLe (by omega)|exact Af.ratsNil|exact Af.glNil|(refine Af.int ?_;omega)|(refine Af.glLen ?_;first|omega|simp)|exact Af.of_eq rfl|(refine Af.q rfl ?_;omega)|exact Z0 _|exact Z2 _|exact Af.z0 (k:=0)|exact Af.z1 (k:=0)|exact Af.z2 (k:=0)|exact Af.z0|exact Af.z1|exact Af.z2))));done))))
     ·repeat (first|exact Ak|(refine List.forall_mem_cons.2 ⟨?_,?_⟩;focus (first|exact AN inferInstance|(refine AG rfl ?_ rfl;focus ((repeat (first|exact EntL.nil' rfl|(refine EntL.cons' rfl ?_ ?_;focus (first|exact Af.ratsLe (by omega)|exact Af.ratsNil|exact Af.glNil|(refine Af.int ?_;omega)|(refine Af.glLen ?_;first|omega|simp)|exact Af.of_eq rfl|(refine Af.q rfl ?_;omega)|exact Z0 _|exact Z2 _|exact Af.z0 (k:=0)|exact Af.z1 (k:=0)|exact Af.z2 (k:=0)|exact Af.z0|exact Af.z1|exact Af.z2))));done)))))
   ·rw [decide_eq_false hxy] at S1
    have hne:l≠m:=fun e=>hxy (by rw [e,hy'] at hx';exact (Option.some.inj hx').symm)
    rw [decide_eq_false hne]
    repeat (first
     | refine Ag ?_|refine Ac ?_|refine Aa rfl ?_|refine Ab rfl ?_
     | ((first|refine AQ (by kernel_rfl) ?_|refine BO (by kernel_rfl) (by kernel_rfl) (by kernel_rfl) ?_)
        repeat (first
         | refine AK (hl:=?_)
         | refine As (hl:=?_)
         | refine BB (hl:=?_)
         | refine BN (hl:=?_)
         | refine AT (hl:=?_)
         | refine Dx (hl:=?_)
         | refine B7 (hl:=?_)
         | refine B6 (hl:=?_)
         | refine B8 (hl:=?_)
         | refine Dp (hl:=?_)
         | refine AY (hl:=?_)
         | refine FO hx (by omega) (hl:=?_)
         | refine FO hy (by omega) (hl:=?_)
         | refine AD hA (hc:=S1) (hl:=?_))
        apply Ah.nil;try refine And.intro (by kernel_rfl) ?_)
     | refine Ad ?_|refine Ae ?_)
    refine Ap (And.intro (Or.inr rfl) ?_)
    exact AA
  ·have bi:=AS (k:= .i64) (decide_eq_false (show ¬(i:Int)<(l.length:Int) by omega))
   have he:l=m:=by
    rw [List.take_of_length_le (by omega),List.take_of_length_le (by omega)] at ht
    exact ht
   rw [decide_eq_true he]
   repeat (first
    | refine Ag ?_|refine Ac ?_|refine Aa rfl ?_|refine Ab rfl ?_
    | ((first|refine AQ (by kernel_rfl) ?_|refine BO (by kernel_rfl) (by kernel_rfl) (by kernel_rfl) ?_)
       repeat (first
        | refine AK (hl:=?_)
        | refine As (hl:=?_)
        | refine BB (hl:=?_)
        | refine BN (hl:=?_)
        | refine AT (hl:=?_)
        | refine Dx (hl:=?_)
        | refine B7 (hl:=?_)
        | refine B6 (hl:=?_)
        | refine B8 (hl:=?_)
        | refine Dp (hl:=?_)
        | refine AY (hl:=?_))
       apply Ah.nil;try refine And.intro (by kernel_rfl) ?_)
    | refine Ad ?_|refine Ae ?_)
   refine Ap (And.intro (Or.inr rfl) ?_)
   exact AA
 ·have b0:=WL (k:= .i64) (a:=(l.length:Int)) (b:=(m.length:Int)) (decide_eq_true (show (l.length:Int)≠(m.length:Int) by omega))
  rw [decide_eq_false (show ¬l=m from fun e=>hlm (by rw [e]))]
  refine Aj Tryz.func21 rfl rfl rfl rfl rfl rfl ?_
  intro W0 base D μ0 hA hD
  repeat (first
   | refine Ag ?_|refine Ac ?_|refine Aa rfl ?_|refine Ab rfl ?_
   | ((first|refine AQ (by kernel_rfl) ?_|refine BO (by kernel_rfl) (by kernel_rfl) (by kernel_rfl) ?_)
      repeat (first
       | refine AK (hl:=?_)
       | refine As (hl:=?_)
       | refine BB (hl:=?_)
       | refine BN (hl:=?_)
       | refine AT (hl:=?_)
       | refine Dx (hl:=?_)
       | refine B7 (hl:=?_)
       | refine B6 (hl:=?_)
       | refine B8 (hl:=?_)
       | refine Dp (hl:=?_)
       | refine AY (hl:=?_))
      apply Ah.nil;try refine And.intro (by kernel_rfl) ?_)
   | refine Ad ?_|refine Ae ?_)
  refine Ap (And.intro (Or.inr rfl) ?_)
  exact AA
section
variable {P:Program} {X:Ctx} {σ:St} {Q:Exit→St→Prop} {tl:List Oper}
theorem XL {o:Oper} (k:Nat) {ss:List (Nat×AV)} {bs:List (Nat×List C)} (hD: ∀g,X.D g→ ∃k∈X.ps,g=(X.μ0 k).1) (hg:o.guard=none:=by exact rfl) (h:Ah P X [o] [o] σ fun _ σ'=>Fk X σ' k ss bs∧Tl P X Q tl (stL ss bs)):Tl P X Q (o::tl) σ:=by
 obtain ⟨es,σ',hr,hf,ht⟩:=h
 cases hr with
 | cons hd hrd hal hl=>
   cases hl
   unfold Ms at hd
   rw [hg] at hd
   exact ⟨hg,_,fun a w hc K Q hK=>hd σ (fun _ _=> .inl rfl) (fun k _=> .inr rfl) hrd hal a w hc K Q fun a' w' hc'=>hK a' w' (hf.cn hD hc'),ht⟩
end
def De (σ:St) (k:Nat) (ks:List Nat) (p:Nat×List C):Prop:=(σ.sz p.1=p.2.length∧ ∀(i:Nat) c,p.2[i]?=some c→FzC σ k (σ.m p.1 i) c∧nl c)∧p.2.all (inC ks)=true
theorem De.of {σ:St} {k:Nat} {ks:List Nat} {p:Nat×List C} (h:DD σ ks p):De σ k ks p:=⟨⟨h.1.1,fun i c hc=>⟨.ent (h.1.2 i c hc).1,(h.1.2 i c hc).2⟩⟩,h.2⟩
theorem De.gl {α:Type} {n:Nat} {f:α→List D} (hf:Elm n f) {σ:St} {k kb len:Nat} {ks:List Nat} {l:List α} (hz:σ.sz k=(Ao f l).length:=by exact rfl) (hm:Kj (σ.m k) (Ao f l):=by first|exact DA|exact Da) (hz2:σ.sz kb=1:=by exact rfl) (hm2:σ.m kb 0= .gl k len n:=by exact rfl) (hlen:len=l.length:=by first|rfl|omega):De σ k ks (kb,[lsG n f l]):=by
 subst hlen
 have h:=GW (f:=f) (l:=l) hf hz hm
 refine ⟨⟨hz2,fun i c hc=>?_⟩,by simp [inC]⟩
 match i,hc with
 | 0,hc=>
   cases hc
   refine ⟨?_,trivial⟩
   show FzC σ k (σ.m kb 0) _
   rw [hm2]
   cases h with
   | one h=>exact h
   | ent h=>exact .ent fun W0 μ sz w x hx=>h W0 μ sz w x hx
theorem Gg {X:Ctx} {σ:St} {k:Nat} {ss:List (Nat×AV)} {bs:List (Nat×List C)} (h1: ∀p∈ss,FzA σ k (σ.s p.1) p.2) (h2: ∀p∈bs,De σ k (bs.map (·.1)) p)
  (hb:((ss.all fun p=>inA (bs.map (·.1)) p.2)&&ndB (bs.map (·.1))&&(X.ps.all fun k=>(bs.map (·.1)).any (Nat.beq k))&&(!X.ps.any (Nat.beq k))&&(bs.all fun p=>!Nat.beq p.1 k))=true):Fk X σ k ss bs:=by
 simp only [Bool.and_eq_true,Bool.not_eq_true'] at hb
 refine ⟨h1,fun p hp=>(h2 p hp).1,hb.1.1.1.1,List.all_eq_true.2 fun p hp=>(h2 p hp).2,Ih hb.1.1.1.2,hb.1.1.2,fun hk=>?_,by
  refine List.all_eq_true.2 fun p hp=>?_
  exact List.all_eq_true.1 hb.2 p hp⟩
 have:=List.any_eq_false.1 hb.1.2 k hk
 simp at this
abbrev EX (j m:Nat) (g:Nat→Rat):C:=AH j (tab m g)
section
variable {P:Program} {X:Ctx} {ops l:List Oper} {σ:St} {K:List Eff→St→Prop} {s:Nat→AV} {z:Nat→Nat}
variable {dst:Option Tmp} {ty:TypeId} {pos:String} {af:Array Edge} {gd:Option (Nat×Bool)}
theorem OO {P:Program} (w:World) (t e:TypeId) (ie:TypeInfo) (hu:P.underlying t=some (.slice e)) (hie:P.info? e=some ie):
  (Instr.buildSlice t 0 #[]).run P w= .ok (.slice (some ⟨w.heap.size,0,none⟩) 0 0) (w.alloc (.cells #[] e)):=by
 simp [Instr.buildSlice,run_underlying hu,sizeOf,typeInfo,hie,Instr.fill,newRow]
 congr 2
 exact Array.ext (by simp) (fun i h1 h2=>by simp at h2)
theorem OG {t e:TypeId} {agg:Bool} {n bytes:Nat} {zv:Value} [S:Sle P t e agg n bytes zv] {id:Nat} (hd: ∀t,dst=some t→t<X.n):
  Sim P X ⟨dst,.buildSlice t 0 #[],ty,pos,af,gd⟩ s z ⟨.one (.gl id 0 n),[],[],[]⟩:=by
 refine Sim.of0 fun W=>?_
 replace hd: ∀t,dst=some t→t<(X.at W).n:=hd
 generalize X.at W=X at hd⊢
 intro σ hs hsz _ hal a w hcn K Q hK
 obtain ⟨μ,hcn⟩:=hcn
 obtain ⟨inf,hi,hz,hsize,hby⟩:=S.info
 have hrun:(execOp a.eval ⟨dst,.buildSlice t 0 #[],ty,pos,af,gd⟩).run P w= .ok (.value (.slice (some ⟨w.heap.size,0,none⟩) 0 0)) (w.alloc (.cells #[] e)):=by
  simp [execOp,OO w t e inf S.hu hi]
 unfold Oper.wp
 rw [hrun]
 have hkp:Kp w (w.alloc (.cells #[] e)):=(Below.refl _ _).alloc (Yu _) _
 refine hK _ _ ⟨μ,?_⟩
 refine Ck (WG hcn hkp) (d:=dst) hd (v:= .slice (some ⟨w.heap.size,0,none⟩) 0 0) (av:= .one (.gl id 0 n)) ⟨_,0,rfl,Yu _,fun _=>rfl,fun h=>absurd rfl h⟩
theorem FY {d:Nat} {t e:TypeId} {agg:Bool} {n bytes:Nat} {zv:Value} [S:Sle P t e agg n bytes zv] (hg:gOk ops σ.s gd:=by first|exact trivial|exact rfl) (hd:dB X.n (some d)=true:=by exact rfl)
  (hl:Ah P X ops l (σ.app (some d) ⟨.one (.gl d 0 n),[],[],[]⟩) (fun es σ'=>K (⟨.one (.gl d 0 n),[],[],[]⟩::es) σ')):Ah P X ops (⟨some d,.buildSlice t 0 #[],ty,pos,af,gd⟩::l) σ K:=
 .of (fun _ _ hl=>Run.step hg (OG (Dd hd)) (fun p hp=>by cases hp) Ct hl) hl
end
theorem Hs {α:Type} {n:Nat} {f:α→List D} (hf:Elm n f) (ks:List Nat) (l:List α):((Ao f l).all fun c=>nlB c&&inC ks c)=true:=List.all_eq_true.2 fun c hc=>by
 obtain ⟨d,hd,rfl⟩:=List.mem_map.1 hc
 obtain ⟨a,_,hda⟩:=List.mem_flatMap.1 hd
 rw [List.all_eq_true.1 (hf.nl a) d hda,A7 (OA d)]
 rfl
section
variable {P:Program} {X:Ctx} {ops l:List Oper} {σ:St} {K:List Eff→St→Prop} {s:Nat→AV} {z:Nat→Nat}
variable {dst:Option Tmp} {ty:TypeId} {pos:String} {af:Array Edge} {gd:Option (Nat×Bool)}
theorem LH (d:Nat) (t e:TypeId) (a:Option Addr) (l c:Nat) (h:P.underlying t=some (.slice e)) (w:World):(Op.equalIn (d+1) t (.slice a l c) (.slice none 0 0)).run P w= .ok a.isNone w:=by
 cases a<;>simp [Op.equalIn,run_underlying h w]
theorem ON (t e:TypeId) (a:Option Addr) (l c:Nat) (h:P.underlying t=some (.slice e)) (w:World):(Op.equal t (.slice a l c) (.slice none 0 0)).run P w= .ok a.isNone w:=LH 9999 t e a l c h w
theorem LU {t e u:TypeId} {x y:Operand} {agg:Bool} {n bytes:Nat} {zv:Value} [S:Sle P t e agg n bytes zv] {α:Type} {f:α→List D} {la:List α} (hx:evC s x= .one (lsG n f la)) (hne:la.flatMap f≠ []) (hy:evC s y= .one (.v (.slice none 0 0))):
  Dc P ⟨dst,.binOp .eql t x y u,ty,pos,af,gd⟩ s (.one (.v (.bool false))):=fun W0 μ sz w ρ hρ=>by
 have h:=hρ x (by simp [Op.operands])
 rw [hx] at h
 have h':=hρ y (by simp [Op.operands])
 rw [hy] at h'
 replace h':ρ y= .slice none 0 0:=h'
 unfold cv cv0 cc dd at h
 obtain ⟨_,ao,cap,hv,_,h3⟩:=h
 obtain ⟨b,off,rfl,_⟩:=h3 hne
 have h3:(Op.equal t (.slice (some ⟨b,off,none⟩) la.length cap) (.slice none 0 0)).run P w= .ok false w:=ON t e _ _ _ S.hu w
 refine ⟨.bool false,?_,rfl⟩
 have h4:(binOp .eql t (.slice (some ⟨b,off,none⟩) la.length cap) (.slice none 0 0)).run P w= .ok (.bool false) w:=by
  show (do pure (Value.bool (←Op.equal t _ (.slice none 0 0))):Sem Value).run P w=_
  rw [Sem.run_bind,h3]
  rfl
 have h5:(eqGuard .eql t x y (.slice (some ⟨b,off,none⟩) la.length cap) (.slice none 0 0)).run P w= .ok () w:=rfl
 show (do let v←(do eqGuard .eql t x y (ρ x) (ρ y);binOp .eql t (ρ x) (ρ y):Sem Value);pure (Next.value v):Sem Next).run P w=_
 rw [hv,h',Sem.run_bind,Sem.run_bind,h5,Result.andThen_ok,h4]
 rfl
theorem U9 {t e u:TypeId} {x y:Operand} {agg:Bool} {n bytes:Nat} {zv:Value} [S:Sle P t e agg n bytes zv] {α:Type} {f:α→List D} {la:List α} (hne:la.flatMap f≠ []) (hg:gOk ops σ.s gd:=by first|exact trivial|exact rfl) (hd:dB X.n dst=true:=by exact rfl) (hx:evC σ.s x= .one (lsG n f la):=by exact rfl) (hy:evC σ.s y= .one (.v (.slice none 0 0)):=by exact rfl)
  (hl:Ah P X ops l (σ.app dst ⟨.one (.v (.bool false)),[],[],[]⟩) (fun es σ'=>K (⟨.one (.v (.bool false)),[],[],[]⟩::es) σ')):Ah P X ops (⟨dst,.binOp .eql t x y u,ty,pos,af,gd⟩::l) σ K:=
 BR (o:=⟨dst,.binOp .eql t x y u,ty,pos,af,gd⟩) hg hd (LU hx hne hy) hl
end
theorem V0 {j:Nat} {l:List Rat} (h:0<l.length):l.flatMap (nmD j)≠ []:=fun h0=>by
 cases l with
 | nil=>cases h
 | cons a l=>cases h0
theorem XA {j J:Nat} {σ:St} {ks:List Nat} {k:Nat} {l:List Rat} (h:j≤J) (hb:DD σ ks (k,Ao (nmD j) l)):DD σ ks (k,Ao (nmD J) l):=by
 have hl:(Ao (nmD J) l).length=(Ao (nmD j) l).length:=by rw [Av (n:=3) inferInstance,Av (n:=3) inferInstance]
 refine ⟨⟨hb.1.1.trans hl.symm,fun o c hc=>⟨?_,ET (n:=3) inferInstance _ c (List.mem_of_getElem? hc)⟩⟩,Cs ks l⟩
 have key: ∀(l:List Rat) (o:Nat) (c:C),(Ao (nmD J) l)[o]?=some c→ ∃d,(Ao (nmD j) l)[o]?=some d∧Af d c:=by
  intro l
  induction l with
  | nil=>intro o c h;simp [Ao] at h
  | cons x l ih=>
    intro o c hc
    match o with
    | 0=>exact ⟨_,rfl,by cases hc;exact Af.q rfl h⟩
    | 1=>exact ⟨_,rfl,by cases hc;exact Af.q rfl h⟩
    | 2=>exact ⟨_,rfl,by cases hc;exact Af.q rfl h⟩
    | o+3=>exact ih o c hc
 obtain ⟨d,hd,he⟩:=key l o c hc
 have h2:=(hb.1.2 o d hd).1
 exact fun W0 μ sz w x hx=>he W0 μ sz w x (h2 W0 μ sz w x hx)
section
variable {P:Program} {X:Ctx} {ops l:List Oper} {σ:St} {K:List Eff→St→Prop}
variable {dst:Option Tmp} {ty:TypeId} {pos:String} {af:Array Edge} {gd:Option (Nat×Bool)}
theorem U3 {A:World→Prop} {c:Call} {f:FuncId} {us:List AV} {R:AV} (hcl:BA σ.s c.callee=some (f,[]):=by exact rfl) (has:c.args.toList.map (evC σ.s)=us:=by exact rfl) (hc:Ctr P A f us R:=by assumption) (hA:A X.W0:=by assumption) (hM:MonoA A:=by infer_instance) (hF:Fun P f:=by infer_instance) (hg:gOk ops σ.s gd:=by first|exact trivial|exact rfl) (hd:dB X.n dst=true:=by exact rfl)
  (hl:Ah P X ops l (σ.app dst ⟨R,[],[],[]⟩) (fun es σ'=>K (⟨R,[],[],[]⟩::es) σ')):Ah P X ops (⟨dst,.call c,ty,pos,af,gd⟩::l) σ K:=
 AD hA hc hg hd hcl (Ents.of_eq has) hl
theorem Oo {A:World→Prop} {c:Call} {f:FuncId} {us caps:List AV} {R:AV} {k1:Nat} {c1:List C} (hcl:BA σ.s c.callee=some (f,caps):=by exact rfl) (has:c.args.toList.map (evC σ.s)++caps=us:=by exact rfl) (hc:BJ P A f us [(k1,c1,c1)] R:=by assumption) (hA:A X.W0:=by assumption) (hM:MonoA A:=by infer_instance) (hF:Fun P f:=by infer_instance) (hg:gOk ops σ.s gd:=by first|exact trivial|exact rfl) (hd:dB X.n dst=true:=by exact rfl)
  (h1:rdL (σ.m k1) 0 c1.length=c1:=by exact rfl) (hb:((([(k1,c1)]:List (Nat×List C)).all (fun p=>EH σ.sz p.2.length p)&&([]:List (Nat×List C×List C)).all (fun p=>EH σ.sz p.2.2.length (p.1,p.2.1))&&((([(k1,c1)]:List (Nat×List C)).map (·.1)++([]:List (Nat×List C×List C)).map (·.1)).all fun k=>(c.args.toList.map (evC σ.s)++caps).any (EO k))&&ndB (([(k1,c1)]:List (Nat×List C)).map (·.1))))=true:=by exact rfl)
  (hl:Ah P X ops l (σ.app dst ⟨R,[(k1,0,c1)],[],[]⟩) (fun es σ'=>K (⟨R,[(k1,0,c1)],[],[]⟩::es) σ')):Ah P X ops (⟨dst,.call c,ty,pos,af,gd⟩::l) σ K:=by
 exact IT hA [(k1,c1)] hc hg hd hcl (Ents.of_eq has) (List.forall_mem_cons.2 ⟨h1,Ak⟩) hb hl
theorem On {A:World→Prop} {c:Call} {f:FuncId} {us caps:List AV} {R:AV} {k1 k2:Nat} {c1 c2:List C} (hcl:BA σ.s c.callee=some (f,caps):=by exact rfl) (has:c.args.toList.map (evC σ.s)++caps=us:=by exact rfl) (hc:BJ P A f us [(k1,c1,c1),(k2,c2,c2)] R:=by assumption) (hA:A X.W0:=by assumption) (hM:MonoA A:=by infer_instance) (hF:Fun P f:=by infer_instance) (hg:gOk ops σ.s gd:=by first|exact trivial|exact rfl) (hd:dB X.n dst=true:=by exact rfl)
  (h1:rdL (σ.m k1) 0 c1.length=c1:=by exact rfl) (h2:rdL (σ.m k2) 0 c2.length=c2:=by exact rfl) (hb:((([(k1,c1),(k2,c2)]:List (Nat×List C)).all (fun p=>EH σ.sz p.2.length p)&&([]:List (Nat×List C×List C)).all (fun p=>EH σ.sz p.2.2.length (p.1,p.2.1))&&((([(k1,c1),(k2,c2)]:List (Nat×List C)).map (·.1)++([]:List (Nat×List C×List C)).map (·.1)).all fun k=>(c.args.toList.map (evC σ.s)++caps).any (EO k))&&ndB (([(k1,c1),(k2,c2)]:List (Nat×List C)).map (·.1))))=true:=by exact rfl)
  (hl:Ah P X ops l (σ.app dst ⟨R,[(k1,0,c1),(k2,0,c2)],[],[]⟩) (fun es σ'=>K (⟨R,[(k1,0,c1),(k2,0,c2)],[],[]⟩::es) σ')):Ah P X ops (⟨dst,.call c,ty,pos,af,gd⟩::l) σ K:=
 IT hA [(k1,c1),(k2,c2)] hc hg hd hcl (Ents.of_eq has) (List.forall_mem_cons.2 ⟨h1,List.forall_mem_cons.2 ⟨h2,Ak⟩⟩) hb hl
theorem Om {A:World→Prop} {c:Call} {f:FuncId} {us caps:List AV} {R:AV} {k1 k2 k3:Nat} {c1 c2 c3:List C} (hcl:BA σ.s c.callee=some (f,caps):=by exact rfl) (has:c.args.toList.map (evC σ.s)++caps=us:=by exact rfl) (hc:BJ P A f us [(k1,c1,c1),(k2,c2,c2),(k3,c3,c3)] R:=by assumption) (hA:A X.W0:=by assumption) (hM:MonoA A:=by infer_instance) (hF:Fun P f:=by infer_instance) (hg:gOk ops σ.s gd:=by first|exact trivial|exact rfl) (hd:dB X.n dst=true:=by exact rfl)
  (h1:rdL (σ.m k1) 0 c1.length=c1:=by exact rfl) (h2:rdL (σ.m k2) 0 c2.length=c2:=by exact rfl) (h3:rdL (σ.m k3) 0 c3.length=c3:=by exact rfl) (hb:((([(k1,c1),(k2,c2),(k3,c3)]:List (Nat×List C)).all (fun p=>EH σ.sz p.2.length p)&&([]:List (Nat×List C×List C)).all (fun p=>EH σ.sz p.2.2.length (p.1,p.2.1))&&((([(k1,c1),(k2,c2),(k3,c3)]:List (Nat×List C)).map (·.1)++([]:List (Nat×List C×List C)).map (·.1)).all fun k=>(c.args.toList.map (evC σ.s)++caps).any (EO k))&&ndB (([(k1,c1),(k2,c2),(k3,c3)]:List (Nat×List C)).map (·.1))))=true:=by exact rfl)
  (hl:Ah P X ops l (σ.app dst ⟨R,[(k1,0,c1),(k2,0,c2),(k3,0,c3)],[],[]⟩) (fun es σ'=>K (⟨R,[(k1,0,c1),(k2,0,c2),(k3,0,c3)],[],[]⟩::es) σ')):Ah P X ops (⟨dst,.call c,ty,pos,af,gd⟩::l) σ K:=
 IT hA [(k1,c1),(k2,c2),(k3,c3)] hc hg hd hcl (Ents.of_eq has) (List.forall_mem_cons.2 ⟨h1,List.forall_mem_cons.2 ⟨h2,List.forall_mem_cons.2 ⟨h3,Ak⟩⟩⟩) hb hl
theorem Q3 {A:World→Prop} {c:Call} {f:FuncId} {us caps:List AV} {k:Nat} {b d:List C} {R:AV} (hcl:BA σ.s c.callee=some (f,caps):=by exact rfl) (has:c.args.toList.map (evC σ.s)++caps=us:=by exact rfl) (hc:BJ P A f us [(k,b,d)] R:=by assumption) (hA:A X.W0:=by assumption) (hM:MonoA A:=by infer_instance) (hF:Fun P f:=by infer_instance) (hg:gOk ops σ.s gd:=by first|exact trivial|exact rfl) (hd:dB X.n dst=true:=by exact rfl) (hrw:rdL (σ.m k) 0 b.length=b:=by exact rfl)
  (hb:((([]:List (Nat×List C)).all (fun p=>EH σ.sz p.2.length p)&& [(k,b,d)].all (fun p=>EH σ.sz p.2.2.length (p.1,p.2.1))&&((([]:List (Nat×List C)).map (·.1)++ [(k,b,d)].map (·.1)).all fun k=>(c.args.toList.map (evC σ.s)++caps).any (KY k)))=true):=by exact rfl)
  (hl:Ah P X ops l (σ.app dst ⟨R,[(k,0,b)],[(k,0,d)],[]⟩) (fun es σ'=>K (⟨R,[(k,0,b)],[(k,0,d)],[]⟩::es) σ')):Ah P X ops (⟨dst,.call c,ty,pos,af,gd⟩::l) σ K:=
 EI hA hc hg hd hcl (Ents.of_eq has) hrw hb hl
theorem Q2 {A:World→Prop} {c:Call} {f:FuncId} {us:List AV} {cs:List C} {d:Nat} (hcl:BA σ.s c.callee=some (f,[]):=by exact rfl) (has:c.args.toList.map (evC σ.s)=us:=by exact rfl) (hc:U7 P A f us cs:=by assumption) (hA:A X.W0:=by assumption) (hM:MonoA A:=by infer_instance) (hF:Fun P f:=by infer_instance) (hg:gOk ops σ.s gd:=by first|exact trivial|exact rfl) (hd:dB X.n (some d)=true:=by exact rfl) (hf:(Nat.beq (σ.sz d) 0&&!cs.isEmpty)=true:=by exact rfl)
  (hl:Ah P X ops l (σ.app (some d) ⟨.one (.ptr d 0),[],[],[(d,cs)]⟩) (fun es σ'=>K (⟨.one (.ptr d 0),[],[],[(d,cs)]⟩::es) σ')):Ah P X ops (⟨some d,.call c,ty,pos,af,gd⟩::l) σ K:=
 P3 hA hc hg hd hf hcl (Ents.of_eq has) hl
theorem QZ {A:World→Prop} {c:Call} {f:FuncId} {us:List AV} {k len n:Nat} {b d:List C} {R:AV} (hcl:BA σ.s c.callee=some (f,[]):=by exact rfl) (has:c.args.toList.map (evC σ.s)=us:=by exact rfl) (hc:BJ P A f us [(k,b,d)] R:=by assumption) (hA:A X.W0:=by assumption) (hM:MonoA A:=by infer_instance) (hF:Fun P f:=by infer_instance) (hg:gOk ops σ.s gd:=by first|exact trivial|exact rfl) (hd:dB X.n dst=true:=by exact rfl)
  (hm1:c.args.toList.map (evC σ.s)= .one (.gl k len n)::us.tail:=by exact rfl) (hz:σ.sz k=b.length:=by exact rfl) (hm:Kj (σ.m k) b:=by first|exact DA|exact Da) (hlen:0<len:=by omega) (hbd:b.length=d.length:=by assumption) (hb0:0<b.length:=by assumption)
  (hl:Ah P X ops l (σ.app dst ⟨R,[(k,0,b)],[(k,0,d)],[]⟩) (fun es σ'=>K (⟨R,[(k,0,b)],[(k,0,d)],[]⟩::es) σ')):Ah P X ops (⟨dst,.call c,ty,pos,af,gd⟩::l) σ K:=
 PZ hA hc ⟨hlen,hbd,hb0⟩ hg hd hcl (Ents.of_eq has) hm1 hz hm hl
theorem Ol {A:World→Prop} {c:Call} {f:FuncId} {us caps:List AV} {k:Nat} {cs:List C} {R:AV} (hcl:BA σ.s c.callee=some (f,caps):=by exact rfl) (has:c.args.toList.map (evC σ.s)++caps=us:=by exact rfl) (hc:C7 P A f us [] [(k,cs)] R:=by assumption) (hA:A X.W0:=by assumption) (hM:MonoA A:=by infer_instance) (hF:Fun P f:=by infer_instance) (hg:gOk ops σ.s gd:=by first|exact trivial|exact rfl) (hd:dB X.n dst=true:=by exact rfl)
  (hne:0<cs.length:=by assumption) (hb:Nat.beq (σ.sz k) 0=true:=by exact rfl)
  (hl:Ah P X ops l (σ.app dst ⟨R,[],[],[(k,cs)]⟩) (fun es σ'=>K (⟨R,[],[],[(k,cs)]⟩::es) σ')):Ah P X ops (⟨dst,.call c,ty,pos,af,gd⟩::l) σ K:=
 My hA [] hc hne hg hd hcl (Ents.of_eq has) Ak (by simp [ndB,hb]) hl
theorem WN {α:Type} {f:α→List D} {la:List α} {b:α} {t e:TypeId} {x y:Operand} {agg:Bool} {n bytes:Nat} {zv:Value} [S:Sle P t e agg n bytes zv] {ik:IntKind} {i:Int} (hx:evC σ.s x= .one (lsG n f la):=by exact rfl) (hy:evC σ.s y= .one (.v (.int ik i)):=by exact rfl) (ha:la[i.toNat]?=some b:=by assumption) (h0:0≤i:=by omega) (hg:gOk ops σ.s gd:=by first|exact trivial|exact rfl) (hd:dB X.n dst=true:=by exact rfl) (hf: ∀a,(f a).length=n:=by intro _;rfl)
  (hl:Ah P X ops l (σ.app dst ⟨.one (.fp (f b)),[],[],[]⟩) (fun es σ'=>K (⟨.one (.fp (f b)),[],[],[]⟩::es) σ')):Ah P X ops (⟨dst,.indexAddr t x y,ty,pos,af,gd⟩::l) σ K:=FO ha h0 hg hd hx hy hf hl
theorem U0 {t e:TypeId} {x y:Operand} {agg:Bool} {n bytes:Nat} {zv:Value} [S:Sle P t e agg n bytes zv] {k len:Nat} {ik:IntKind} {i:Int} (hx:evC σ.s x= .one (.gl k len n):=by exact rfl) (hy:evC σ.s y= .one (.v (.int ik i)):=by exact rfl) (hi:0≤i∧i<len:=by first|assumption|exact ⟨by omega,by omega⟩) (hg:gOk ops σ.s gd:=by first|exact trivial|exact rfl) (hd:dB X.n dst=true:=by exact rfl)
  (hl:Ah P X ops l (σ.app dst ⟨.one (.ptr k (i.toNat*n)),[],[],[]⟩) (fun es σ'=>K (⟨.one (.ptr k (i.toNat*n)),[],[],[]⟩::es) σ')):Ah P X ops (⟨dst,.indexAddr t x y,ty,pos,af,gd⟩::l) σ K:=Lo hi hg hd hx hy hl
theorem QX {t:TypeId} {x:Operand} {agg:Bool} {n:Nat} [hT:Tsz P t agg n] {k m:Nat} {i:Int} {cs:List C} (hx:evC σ.s x= .one (.ptr k (i.toNat*m)):=by exact rfl) (hm:rdL (σ.m k) (i.toNat*m) n=cs:=by assumption) (hz:i.toNat*m+n≤σ.sz k:=by assumption) (hg:gOk ops σ.s gd:=by first|exact trivial|exact rfl) (hd:dB X.n dst=true:=by exact rfl) (hc:(Nat.blt 0 n&&(agg || Nat.beq n 1))=true:=by exact rfl)
  (hl:Ah P X ops l (σ.app dst ⟨mkA agg cs,[(k,i.toNat*m,cs)],[],[]⟩) (fun es σ'=>K (⟨mkA agg cs,[(k,i.toNat*m,cs)],[],[]⟩::es) σ')):Ah P X ops (⟨dst,.load t x,ty,pos,af,gd⟩::l) σ K:=Ln hz hm hg hd hx hc hl
theorem Ok {t:TypeId} {x y:Operand} {agg:Bool} {n:Nat} [hT:Tsz P t agg n] {k m:Nat} {i:Int} {av:AV} (hx:evC σ.s x= .one (.ptr k (i.toNat*m)):=by exact rfl) (hz:i.toNat*m+n≤σ.sz k:=by assumption) (hg:gOk ops σ.s gd:=by first|exact trivial|exact rfl) (hd:dB X.n dst=true:=by exact rfl) (hy:evC σ.s y=av:=by exact rfl) (hc:(Nat.beq (At av).length n&&(Dg av || Nat.beq n 1)&&Nat.blt 0 n&&(At av).all nlB)=true:=by exact rfl)
  (hl:Ah P X ops l (σ.app dst ⟨.junk,[],[(k,i.toNat*m,At av)],[]⟩) (fun es σ'=>K (⟨.junk,[],[(k,i.toNat*m,At av)],[]⟩::es) σ')):Ah P X ops (⟨dst,.store t x y,ty,pos,af,gd⟩::l) σ K:=Mx hz hg hd hx hy hc hl
theorem UZ {d:Nat} {t e:TypeId} {lo co:Operand} {agg:Bool} {n bytes:Nat} {zv:Value} [S:Sle P t e agg n bytes zv] {kl kc:IntKind} {cap:Nat} (hx:evC σ.s lo= .one (.v (.int kl (cap:Nat))):=by exact rfl) (hy:evC σ.s co= .one (.v (.int kc (cap:Nat))):=by exact rfl) (hp:0<cap:=by omega) (hb:bytes*cap≤281474976710656:=by omega) (hb2:cap≤9223372036854775807:=by omega) (hg:gOk ops σ.s gd:=by first|exact trivial|exact rfl) (hd:dB X.n (some d)=true:=by exact rfl) (hf:Nat.beq (σ.sz d) 0=true:=by exact rfl)
  (hl:Ah P X ops l (σ.app (some d) ⟨.one (.gl d cap n),[],[],[(d,BU cap zv.cells.toList)]⟩) (fun es σ'=>K (⟨.one (.gl d cap n),[],[],[(d,BU cap zv.cells.toList)]⟩::es) σ')):Ah P X ops (⟨some d,.makeSlice t lo co,ty,pos,af,gd⟩::l) σ K:=WR hp hb hb2 hg hd hx hy hf hl
theorem QY {t e u:TypeId} {x y:Operand} {agg:Bool} {n bytes:Nat} {zv:Value} [S:Sle P t e agg n bytes zv] {α:Type} {f:α→List D} {la:List α} (hx:evC σ.s x= .one (lsG n f la):=by exact rfl) (hne:la.flatMap f≠ []:=by assumption) (hg:gOk ops σ.s gd:=by first|exact trivial|exact rfl) (hd:dB X.n dst=true:=by exact rfl) (hy:evC σ.s y= .one (.v (.slice none 0 0)):=by exact rfl)
  (hl:Ah P X ops l (σ.app dst ⟨.one (.v (.bool false)),[],[],[]⟩) (fun es σ'=>K (⟨.one (.v (.bool false)),[],[],[]⟩::es) σ')):Ah P X ops (⟨dst,.binOp .eql t x y u,ty,pos,af,gd⟩::l) σ K:=U9 hne hg hd hx hy hl
theorem QV {α:Type} {f:α→List D} {la:List α} {t e:TypeId} {x lo hi:Operand} {agg:Bool} {n bytes:Nat} {zv:Value} [S:Sle P t e agg n bytes zv] {k k':IntKind} {a b:Nat} (hx:evC σ.s x= .one (lsG n f la):=by exact rfl) (hlo:evC σ.s lo= .one (.v (.int k (a:Nat))):=by exact rfl) (hhi:evC σ.s hi= .one (.v (.int k' (b:Nat))):=by exact rfl) (hab:a≤b:=by omega) (hb:b≤la.length:=by omega) (hg:gOk ops σ.s gd:=by first|exact trivial|exact rfl) (hd:dB X.n dst=true:=by exact rfl) (hf: ∀a,(f a).length=n:=by intro _;rfl)
  (hl:Ah P X ops l (σ.app dst ⟨.one (lsG n f ((la.take b).drop a)),[],[],[]⟩) (fun es σ'=>K (⟨.one (lsG n f ((la.take b).drop a)),[],[],[]⟩::es) σ')):Ah P X ops (⟨dst,.slice t x (some lo) (some hi) none,ty,pos,af,gd⟩::l) σ K:=H7 hab hb (.some hlo rfl) (.some hhi rfl) hg hd hx hf hl
theorem QW {α:Type} {f:α→List D} {la:List α} {t e:TypeId} {x lo:Operand} {agg:Bool} {n bytes:Nat} {zv:Value} [S:Sle P t e agg n bytes zv] {k:IntKind} {a:Nat} (hx:evC σ.s x= .one (lsG n f la):=by exact rfl) (hlo:evC σ.s lo= .one (.v (.int k (a:Nat))):=by exact rfl) (hab:a≤la.length:=by omega) (hg:gOk ops σ.s gd:=by first|exact trivial|exact rfl) (hd:dB X.n dst=true:=by exact rfl) (hf: ∀a,(f a).length=n:=by intro _;rfl)
  (hl:Ah P X ops l (σ.app dst ⟨.one (lsG n f ((la.take la.length).drop a)),[],[],[]⟩) (fun es σ'=>K (⟨.one (lsG n f ((la.take la.length).drop a)),[],[],[]⟩::es) σ')):Ah P X ops (⟨dst,.slice t x (some lo) none none,ty,pos,af,gd⟩::l) σ K:=H7 hab (Yu _) (.some hlo rfl) .none hg hd hx hf hl
theorem QU {op:Op} {g:Nat} {want:Bool} (hg:ID ops σ.s g= .one (.v undef):=by exact rfl) (hl:Ah P X ops l (σ.app dst FR) (fun es σ'=>K (FR::es) σ')):Ah P X ops (⟨dst,op,ty,pos,af,some (g,want)⟩::l) σ K:=
 .of (fun _ _ hl=>by
  refine .cons (e:=FR) ?_ (fun p hp=>by cases hp) Ct hl
  have h:=hg
  unfold ID at h
  split at h
  ·rename_i o ho
   split at h
   ·rename_i d hd
    exact ⟨o,ho,d,hd,.inr (.inr ⟨h,rfl⟩)⟩
   ·cases h
  ·cases h) hl
end
section
variable {P:Program} {X:Ctx} {σ σ':St} {Q:Exit→St→Prop} {id:Nat} {L:List Oper} {es:List Eff}
theorem Am (hq:Q .normal σ') (hn:(L.all fun o=>match o.dst with|some t=>Nat.blt t X.n|none=>true)=true:=by kernel_rfl) (hr:Ah P X L L σ (fun e s=>e=es∧s=σ'):=by ((repeat (first|refine QX (hl:=?_)|refine Ok (hl:=?_)|refine AO (hl:=?_)|refine DG (hl:=?_)|refine AK (hl:=?_)|refine As (hl:=?_)|refine BB (hl:=?_)|refine AB (hl:=?_)|refine Fb (hl:=?_)|refine BP (hl:=?_)|refine BL (hl:=?_)|refine BM (hl:=?_)|refine Fa (hl:=?_)|refine BN (hl:=?_)|refine PY (hl:=?_)|refine PX (hl:=?_)|refine Fy (hl:=?_)|refine Dx (hl:=?_)|refine C8 (hl:=?_)|refine C9 (hl:=?_)|refine FX (hl:=?_)|refine D9 (hl:=?_)|refine H8 (hl:=?_)|refine B8 (hl:=?_)|refine Cc (hl:=?_)|refine Kw (hl:=?_)|refine SJ (hl:=?_)|refine B7 (hl:=?_)|refine B6 (hl:=?_)|refine Dp (hl:=?_)|refine AY (hl:=?_)|refine BI (hl:=?_)|refine BD (hl:=?_)|refine FY (hl:=?_)|refine AT (hl:=?_)|refine U3 (hl:=?_)|refine Oo (hl:=?_)|refine On (hl:=?_)|refine Om (hl:=?_)|refine Q3 (hl:=?_)|refine Q2 (hl:=?_)|refine QZ (hl:=?_)|refine Ol (hl:=?_)|refine WN (hl:=?_)|refine U0 (hl:=?_)|refine UZ (hl:=?_)|refine QY (hl:=?_)|refine QV (hl:=?_)|refine QW (hl:=?_)|refine QU (hl:=?_)));exact Ah.nil ⟨rfl,rfl⟩)):Aw P X (.region id L.toArray false) σ Q:=by
 obtain ⟨e,s,h1,rfl,rfl⟩:=hr
 exact Oi hn h1 hq
theorem An (hq:Q .normal σ') (hm:P.follows .mixedOrders=true:=by kernel_rfl) (hd:N9 L=true:=by kernel_rfl) (hn:(L.all fun o=>match o.dst with|some t=>Nat.blt t X.n|none=>true)=true:=by kernel_rfl) (hr:Ah P X L L σ (fun e s=>e=es∧s=σ'):=by ((repeat (first|refine QX (hl:=?_)|refine Ok (hl:=?_)|refine AO (hl:=?_)|refine DG (hl:=?_)|refine AK (hl:=?_)|refine As (hl:=?_)|refine BB (hl:=?_)|refine AB (hl:=?_)|refine Fb (hl:=?_)|refine BP (hl:=?_)|refine BL (hl:=?_)|refine BM (hl:=?_)|refine Fa (hl:=?_)|refine BN (hl:=?_)|refine PY (hl:=?_)|refine PX (hl:=?_)|refine Fy (hl:=?_)|refine Dx (hl:=?_)|refine C8 (hl:=?_)|refine C9 (hl:=?_)|refine FX (hl:=?_)|refine D9 (hl:=?_)|refine H8 (hl:=?_)|refine B8 (hl:=?_)|refine Cc (hl:=?_)|refine Kw (hl:=?_)|refine SJ (hl:=?_)|refine B7 (hl:=?_)|refine B6 (hl:=?_)|refine Dp (hl:=?_)|refine AY (hl:=?_)|refine BI (hl:=?_)|refine BD (hl:=?_)|refine FY (hl:=?_)|refine AT (hl:=?_)|refine U3 (hl:=?_)|refine Oo (hl:=?_)|refine On (hl:=?_)|refine Om (hl:=?_)|refine Q3 (hl:=?_)|refine Q2 (hl:=?_)|refine QZ (hl:=?_)|refine Ol (hl:=?_)|refine WN (hl:=?_)|refine U0 (hl:=?_)|refine UZ (hl:=?_)|refine QY (hl:=?_)|refine QV (hl:=?_)|refine QW (hl:=?_)|refine QU (hl:=?_)));exact Ah.nil ⟨rfl,rfl⟩)) (hc:chk L es=true:=by kernel_rfl):Aw P X (.region id L.toArray true) σ Q:=by
 obtain ⟨e,s,h1,rfl,rfl⟩:=hr
 exact QP hm hd hn h1 hc hq
theorem BF {ss:List (Nat×AV)} {bs:List (Nat×List C)} (h1: ∀p∈ss,Ent (σ.s p.1) p.2:=by (repeat (first|exact Ak|(refine List.forall_mem_cons.2 ⟨?_,?_⟩;focus (first|exact Ent.of_eq rfl|(refine Ent.one' rfl ?_;(first|exact Af.qs (by assumption)|exact Af.ratsLe (by omega)|exact Af.ratsNil|exact Af.glNil|(refine Af.int ?_;omega)|(refine Af.glLen ?_;first|omega|simp)|exact Af.of_eq rfl|(refine Af.q rfl ?_;omega)|exact Af.qe (by assumption) (by assumption)|exact Z0 _|exact Z2 _|exact Af.z0 (k:=0)|exact Af.z1 (k:=0)|exact Af.z2 (k:=0)|exact Af.z0|exact Af.z1|exact Af.z2))|(refine Ent.agg' rfl ?_;(repeat (first|exact EntL.nil' rfl|(refine EntL.cons' rfl ?_ ?_;focus (first|exact Af.qs (by assumption)|exact Af.ratsLe (by omega)|exact Af.ratsNil|exact Af.glNil|(refine Af.int ?_;omega)|(refine Af.glLen ?_;first|omega|simp)|exact Af.of_eq rfl|(refine Af.q rfl ?_;omega)|exact Af.qe (by assumption) (by assumption)|exact Z0 _|exact Z2 _|exact Af.z0 (k:=0)|exact Af.z1 (k:=0)|exact Af.z2 (k:=0)|exact Af.z0|exact Af.z1|exact Af.z2))));(first|done|fail))))))) (h2: ∀p∈bs,DD σ (bs.map (·.1)) p:=by (repeat (first|exact Ak|(refine List.forall_mem_cons.2 ⟨?_,?_⟩;focus (first|exact AN inferInstance|(refine I5 inferInstance (by omega) ?_;(repeat (first|exact EntL.nil' rfl|(refine EntL.cons' rfl ?_ ?_;focus (first|exact Af.qs (by assumption)|exact Af.ratsLe (by omega)|exact Af.ratsNil|exact Af.glNil|(refine Af.int ?_;omega)|(refine Af.glLen ?_;first|omega|simp)|exact Af.of_eq rfl|(refine Af.q rfl ?_;omega)|exact Af.qe (by assumption) (by assumption)|exact Z0 _|exact Z2 _|exact Af.z0 (k:=0)|exact Af.z1 (k:=0)|exact Af.z2 (k:=0)|exact Af.z0|exact Af.z1|exact Af.z2))));(first|done|fail))|(refine Fu inferInstance ?_;(repeat (first|exact EntL.nil' rfl|(refine EntL.cons' rfl ?_ ?_;focus (first|exact Af.qs (by assumption)|exact Af.ratsLe (by omega)|exact Af.ratsNil|exact Af.glNil|(refine Af.int ?_;omega)|(refine Af.glLen ?_;first|omega|simp)|exact Af.of_eq rfl|(refine Af.q rfl ?_;omega)|exact Af.qe (by assumption) (by assumption)|exact Z0 _|exact Z2 _|exact Af.z0 (k:=0)|exact Af.z1 (k:=0)|exact Af.z2 (k:=0)|exact Af.z0|exact Af.z1|exact Af.z2))));(first|done|fail))|(refine Mm inferInstance ?_;(repeat (first|exact EntL.nil' rfl|(refine EntL.cons' rfl ?_ ?_;focus (first|exact Af.qs (by assumption)|exact Af.ratsLe (by omega)|exact Af.ratsNil|exact Af.glNil|(refine Af.int ?_;omega)|(refine Af.glLen ?_;first|omega|simp)|exact Af.of_eq rfl|(refine Af.q rfl ?_;omega)|exact Af.qe (by assumption) (by assumption)|exact Z0 _|exact Z2 _|exact Af.z0 (k:=0)|exact Af.z1 (k:=0)|exact Af.z2 (k:=0)|exact Af.z0|exact Af.z1|exact Af.z2))));(first|done|fail))|exact Fv (la:= []) inferInstance|(refine AG rfl ?_ rfl;(repeat (first|exact EntL.nil' rfl|(refine EntL.cons' rfl ?_ ?_;focus (first|exact Af.qs (by assumption)|exact Af.ratsLe (by omega)|exact Af.ratsNil|exact Af.glNil|(refine Af.int ?_;omega)|(refine Af.glLen ?_;first|omega|simp)|exact Af.of_eq rfl|(refine Af.q rfl ?_;omega)|exact Af.qe (by assumption) (by assumption)|exact Z0 _|exact Z2 _|exact Af.z0 (k:=0)|exact Af.z1 (k:=0)|exact Af.z2 (k:=0)|exact Af.z0|exact Af.z1|exact Af.z2))));(first|done|fail)))))))
  (hb:((ss.all fun p=>inA (bs.map (·.1)) p.2)&&ndB (bs.map (·.1))&&(X.ps.all fun k=>(bs.map (·.1)).any (Nat.beq k)))=true:=by exact rfl):Wk X σ ss bs:=Cu h1 h2 hb
theorem Us {c d:C} (h:Af c d:=by (first|exact Af.ratsLe (by omega)|exact Af.ratsNil|exact Af.glNil|(refine Af.int ?_;omega)|(refine Af.glLen ?_;first|omega|simp)|exact Af.of_eq rfl|(refine Af.q rfl ?_;omega)|exact Z0 _|exact Z2 _|exact Af.z0 (k:=0)|exact Af.z1 (k:=0)|exact Af.z2 (k:=0)|exact Af.z0|exact Af.z1|exact Af.z2)):Af c d:=h
theorem Iu {c d:C} (h:Af c d:=by (first|exact Af.ratsLe (by omega)|exact Af.ratsNil|exact Af.glNil|(refine Af.int ?_;omega)|(refine Af.glLen ?_;first|omega|simp))):Af c d:=h
theorem Gh {c d:C} (h:Af c d:=by (first|exact Af.of_eq rfl|(refine Af.q rfl ?_;omega)|exact Z0 _|exact Z2 _|exact Af.z0 (k:=0)|exact Af.z1 (k:=0)|exact Af.z2 (k:=0)|exact Af.z0|exact Af.z1|exact Af.z2)):Af c d:=h
theorem CI {l m:List C} (h:EntL l m:=by ((repeat (first|exact EntL.nil' rfl|(refine EntL.cons' rfl ?_ ?_;focus (exact Us))));(first|done|fail))):EntL l m:=h
theorem WB {a b:AV} (h:Ent a b:=by (first|exact Ent.of_eq rfl|(refine Ent.one' rfl ?_;exact Us)|(refine Ent.agg' rfl ?_;exact CI))):Ent a b:=h
theorem Jb {ss:List (Nat×AV)} (h: ∀p∈ss,Ent (σ.s p.1) p.2:=by (repeat (first|exact Ak|(refine List.forall_mem_cons.2 ⟨?_,?_⟩;focus (exact WB))))): ∀p∈ss,Ent (σ.s p.1) p.2:=h
theorem IO {k:Nat} {ss:List (Nat×AV)} {bs:List (Nat×List C)} (h1: ∀p∈ss,FzA σ k (σ.s p.1) p.2:=by (repeat (first|exact Ak|(refine List.forall_mem_cons.2 ⟨?_,?_⟩;focus (first|exact GW inferInstance|(refine FzA.ent ?_;exact WB))))))
  (h2: ∀p∈bs,DD σ (bs.map (·.1)) p:=by (repeat (first|exact Ak|(refine List.forall_mem_cons.2 ⟨?_,?_⟩;focus (first|exact AN inferInstance|(refine AG rfl ?_ rfl;exact CI))))))
  (hb:((ss.all fun p=>inA (bs.map (·.1)) p.2)&&ndB (bs.map (·.1))&&(X.ps.all fun k=>(bs.map (·.1)).any (Nat.beq k))&&(!X.ps.any (Nat.beq k))&&(bs.all fun p=>!Nat.beq p.1 k))=true:=by exact rfl):Fk X σ k ss bs:=QB h1 h2 hb
end
theorem Yb {X:Ctx} {μ:Nat→Nat×Nat} {σ:St} {a:Act} {w w' W':World} (h:Cn X μ σ a w) (k:Kp w w') (hE:Ext X.W0 W') (hF:Fr W' w') (hnew: ∀g,alive W' g→alive X.W0 g∨w.heap.size≤g):IR X W'∧Cn (X.at W') μ σ a w':=by
 have kl:=Kl.of_kp k
 have ext: ∀i,σ.sz i≠0→μ i=μ i∧σ.sz i≠0:=fun i hi=>⟨rfl,hi⟩
 refine ⟨⟨hE,fun g hg=>(hnew g hg).imp_right fun h1=>Nat.le_trans h.kd.size h1⟩,hF,h.kd.trans (.of_kp k),h.defers,h.size,fun t=>(h.slot t).mono kl ext hE,fun i hi=>?_,h.inj,fun i hi=>⟨fun ha=>?_,(h.own i hi).2⟩,h.par⟩
 ·obtain ⟨cs,e,h1,h2,h4,h3⟩:=h.blk i hi
  exact ⟨cs,e,by rw [k.block _ (Array.getElem?_eq_some_iff.1 h1).1];exact h1,h2,h4,fun o x hx=>Ek (h3 o x hx) kl ext hE⟩
 ·rcases hnew _ ha with h1|h1
  ·exact (h.own i hi).1 h1
  ·obtain ⟨cs,e,h2,_⟩:=h.blk i hi
   have:=(Array.getElem?_eq_some_iff.1 h2).1
   omega
section
variable {P:Program} {X:Ctx} {ops l:List Oper} {σ:St} {K:List Eff→St→Prop} {s:Nat→AV} {z:Nat→Nat}
variable {dst:Option Tmp} {ty:TypeId} {pos:String} {af:Array Edge} {gd:Option (Nat×Bool)}
end
theorem UG {W0 w:World} {b j k:Nat} : ∀ {l:List Rat} {off:Nat},(∀r∈l,RSz k r)→ddL W0 w b off (l.flatMap (nmD j))→ddL W0 w b off (l.flatMap (nmD k))
 | [],_,_,hd=>hd
 | x::l,off,h,hd=>by
   rw [List.flatMap_cons] at hd⊢
   show ddL W0 w b off (.q x k 0:: .q x k 1:: .q x k 2::l.flatMap (nmD k))
   replace hd:ddL W0 w b off (.q x j 0:: .q x j 1:: .q x j 2::l.flatMap (nmD j)):=hd
   have hx:=h x List.mem_cons_self
   simp only [ddL] at hd⊢
   obtain ⟨⟨v0,a0,a1,a2⟩,⟨v1,b0,b1,b2⟩,⟨v2,c0,c1,c2⟩,r⟩:=hd
   exact ⟨⟨v0,a0,a1,⟨a2.1,Nat.zero_le _⟩⟩,⟨v1,b0,b1,⟨b2.1,hx.1⟩⟩,⟨v2,c0,c1,⟨c2.1,QF hx.2⟩⟩,UG (fun r hr=>h r (List.mem_cons_of_mem _ hr)) r⟩
theorem Af.ratsRs {j k:Nat} {l:List Rat} (h: ∀r∈l,RSz k r):Af (AH j l) (AH k l):=fun W0 μ sz w x hx=>by
 unfold cc dd at hx⊢
 obtain ⟨h0,ao,cap,h1,h2,h3⟩:=hx
 refine ⟨Fs (f:=nmD k) (es:=3) (fun _=>rfl) l,ao,cap,h1,h2,fun hne=>?_⟩
 have hne':l.flatMap (nmD j)≠ []:=fun h0=>by
  cases l with
  | nil=>exact hne rfl
  | cons a l=>cases h0
 obtain ⟨b,off,h4,h5⟩:=h3 hne'
 exact ⟨b,off,h4,UG h h5⟩
theorem Ctr.shortRes {P:Program} {A:World→Prop} {f:FuncId} {j k:Nat} {l:List Rat} {us:List AV} (h:Ctr P A f us (.one (AH j l))) (hs: ∀r∈l,RSz k r):Ctr P A f us (.one (AH k l)):=
 BJ.weak h (Ents.of_eq rfl) (Ent.one' rfl (Af.ratsRs hs))
theorem Ctr.short1 {P:Program} {A:World→Prop} {f:FuncId} {j k:Nat} {l:List Rat} {us:List AV} {R:AV} (h:Ctr P A f (.one (AH k l)::us) R) (hs: ∀r∈l,RSz k r):Ctr P A f (.one (AH j l)::us) R:=by
 have key: ∀us,Ents us us:=by
  intro us
  induction us with
  | nil=>exact .nil
  | cons a us ih=>exact .cons (Ent.of_eq rfl) ih
 exact BJ.weak h (.cons (Ent.one' rfl (Af.ratsRs hs)) (key us)) (Ent.of_eq rfl)
end Go.Proofs.YtfineedhebhpaaaGreatDoor
