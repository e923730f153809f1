/-
  Several texts in one: Na, Za, Au, Zae.
-/
import Derived.Test.YtkmalkcgkcpcmaaGreatDoorGk
import Derived.Test.YtkmalkcgkcpcmaaGreatDoorEv
import Derived.Test.YtkmalkcgkcpcmaaGreatDoorHz
namespace Go.Proofs.YtkmalkcgkcpcmaaGreatDoor
open Nat renaming le_refl→Yh
open List renaming getElem?_eq_getElem→Yi
open Go.RowKit
set_option linter.unusedVariables false
set_option linter.unusedSimpArgs false
set_option maxRecDepth 20000
set_option maxHeartbeats 4000000
abbrev nmD (j:Nat) (x:Rat):List D:= [.q x j 0,.q x j 1,.q x j 2]
abbrev Ax (j:Nat) (l:List Rat):C:=lsG 3 (nmD j) l
instance (j:Nat):Elm 3 (nmD j):=⟨fun _=>rfl,fun _=>rfl⟩
theorem Xf {W0 w:World} {x:Value} {r:Rat} {j k i:Nat} (h:j≤k) (hd:dd W0 w x (.q r j i)):dd W0 w x (.q r k i):=by
 unfold dd at hd⊢
 match i,hd with
 | 0,hd=>exact ⟨hd.1,Nat.zero_le _⟩
 | 1,hd=>exact ⟨hd.1,Nat.le_trans hd.2 h⟩
 | _+2,hd=>exact ⟨hd.1,Nat.le_trans hd.2 h⟩
theorem Wj {W0 w:World} {b j k:Nat} (h:j≤k): ∀ {l:List Rat} {off:Nat},ddL W0 w b off (l.flatMap (nmD j))→ddL W0 w b off (l.flatMap (nmD k))
 | [],_,hd=>hd
 | x::l,off,hd=>by
   rw [List.flatMap_cons] at hd⊢
   show ddL W0 w b off (.q x k 0:: .q x k 1:: .q x k 2::l.flatMap (nmD k))
   replace hd:ddL W0 w b off (.q x j 0:: .q x j 1:: .q x j 2::l.flatMap (nmD j)):=hd
   simp only [ddL] at hd⊢
   obtain ⟨⟨v0,a0,a1,a2⟩,⟨v1,b0,b1,b2⟩,⟨v2,c0,c1,c2⟩,r⟩:=hd
   exact ⟨⟨v0,a0,a1,Xf h a2⟩,⟨v1,b0,b1,Xf h b2⟩,⟨v2,c0,c1,Xf h c2⟩,Wj h r⟩
theorem Aa.ratsLe {j k:Nat} {l:List Rat} (h:j≤k):Aa (Ax j l) (Ax k l):=fun W0 μ sz w x hx=>by
 unfold cc dd at hx⊢
 obtain ⟨h0,ao,cap,h1,h2,h3⟩:=hx
 refine ⟨FZ (f:=nmD k) (es:=3) (fun _=>rfl) l,ao,cap,h1,h2,fun hne=>?_⟩
 have hne':l.flatMap (nmD j)≠ []:=fun h0=>by
  cases l with
  | nil=>exact hne rfl
  | cons a l=>cases h0
 obtain ⟨b,off,h4,h5⟩:=h3 hne'
 exact ⟨b,off,h4,Wj h h5⟩
theorem Aa.ratsNil {j:Nat} :Aa (.v (.slice none 0 0)) (Ax j []):=fun W0 μ sz w x hx=>by
 have hx:x= .slice none 0 0:=hx
 unfold cc dd
 exact ⟨rfl,none,0,hx,Yh _,fun h=>absurd rfl h⟩
theorem VK {k:Nat} {x:Rat} (h:Sz k x.den):(toL (H8 x)).length≤k:=by
 unfold H8
 split
 ·simp [toL]
 ·exact h
theorem Aa.qs {x:Rat} {j k i:Nat} (h:RSz k x):Aa (.q x j i) (.q x k i):=fun _ _ _ _ _ hv=>by
 match i with
 | 0=>exact ⟨hv.1,Nat.zero_le _⟩
 | 1=>exact ⟨hv.1,h.1⟩
 | _+2=>exact ⟨hv.1,VK h.2⟩
theorem Aa.qe {x y:Rat} {j k i:Nat} (e:x=y) (h:RSz k y):Aa (.q x j i) (.q y k i):=e▸Aa.qs (e▸h)
theorem CI {k:IntKind} {a b:Int} {c:Bool} (h:decide (a≠b)=c):FF .neq k a b=some (.bool c):=by
 rw [←h]
 show some (Value.bool (a !=b))=_
 congr 2
 by_cases hab:a=b<;>simp [hab]
theorem Oj {j k:Nat} {l m:List Rat} (h1:l.length≤1000000000) (h2:m.length≤1000000000):
  Ctr Tryz.prog Amb 24 [.one (Ax j l),.one (Ax k m)] (.one (.v (.bool (decide (l=m))))):=by
 by_cases hlm:l.length=m.length
 ·have b0:=CI (k:= .i64) (a:=(l.length:Int)) (b:=(m.length:Int)) (decide_eq_false (show ¬(l.length:Int)≠(m.length:Int) by omega))
  refine As Tryz.func24 rfl rfl rfl rfl rfl rfl ?_
  intro W0 base D μ0 hA hD
  repeat (first
   | refine Ah ?_|refine Ad ?_|refine Ab rfl ?_|refine Ac rfl ?_
   | ((first|refine Al (by kernel_rfl) ?_|refine Aq (by kernel_rfl) (by kernel_rfl) (by kernel_rfl) ?_)
      repeat (first
       | refine An (hl:=?_)
       | refine Ai (hl:=?_)
       | refine Az (hl:=?_)
       | refine AC (hl:=?_)
       | refine Ak (hl:=?_)
       | refine Cs (hl:=?_)
       | refine AJ (hl:=?_)
       | refine AI (hl:=?_)
       | refine AK (hl:=?_)
       | refine AH (hl:=?_)
       | refine Ar (hl:=?_))
      apply Ag.nil;try refine And.intro (by kernel_rfl) ?_)
   | refine Ae ?_|refine Af ?_)
  refine Cq (fun n σ=> ∃i:Nat,n+i=l.length∧l.take i=m.take i∧Wk ⟨W0,base,D,27,[],μ0⟩ σ [(0,.one (Ax j l)),(1,.one (Ax k m)),(5,.one (.v (.int .i64 (i:Nat))))] []) (n:=l.length) ⟨0,by omega,by simp,?_⟩ ?_
  ·refine D3 ?_ ?_ rfl
   ·repeat (first|exact AR|(refine List.forall_mem_cons.2 ⟨?_,?_⟩;focus (first|exact Ent.of_eq rfl|(refine Ent.one' rfl ?_;(first|exact Aa.ratsLe (by omega)|exact Aa.ratsNil|exact Aa.glNil|(refine Aa.int ?_;omega)|(refine Aa.glLen ?_;first|omega|simp)|exact Aa.of_eq rfl|(refine Aa.q rfl ?_;omega)|exact Z0 _|exact Z2 _|exact Aa.z0 (k:=0)|exact Aa.z1 (k:=0)|exact Aa.z2 (k:=0)|exact Aa.z0|exact Aa.z1|exact Aa.z2))|(refine Ent.agg' rfl ?_;(repeat (first|exact EntL.nil' rfl|(refine EntL.cons' rfl ?_ ?_;focus (first|exact Aa.ratsLe (by omega)|exact Aa.ratsNil|exact Aa.glNil|(refine Aa.int ?_;omega)|(refine Aa.glLen ?_;first|omega|simp)|exact Aa.of_eq rfl|(refine Aa.q rfl ?_;omega)|exact Z0 _|exact Z2 _|exact Aa.z0 (k:=0)|exact Aa.z1 (k:=0)|exact Aa.z2 (k:=0)|exact Aa.z0|exact Aa.z1|exact Aa.z2))));done))))
   ·repeat (first|exact AR|(refine List.forall_mem_cons.2 ⟨?_,?_⟩;focus (first|exact C6 inferInstance|(refine Dk rfl ?_ rfl;focus ((repeat (first|exact EntL.nil' rfl|(refine EntL.cons' rfl ?_ ?_;focus (first|exact Aa.ratsLe (by omega)|exact Aa.ratsNil|exact Aa.glNil|(refine Aa.int ?_;omega)|(refine Aa.glLen ?_;first|omega|simp)|exact Aa.of_eq rfl|(refine Aa.q rfl ?_;omega)|exact Z0 _|exact Z2 _|exact Aa.z0 (k:=0)|exact Aa.z1 (k:=0)|exact Aa.z2 (k:=0)|exact Aa.z0|exact Aa.z1|exact Aa.z2))));done)))))
  intro n σ hI
  obtain ⟨i,hn,ht,hw⟩:=hI
  refine BW hw ?_
  clear hw
  by_cases hi:i<l.length
  ·have bi:=BO (k:= .i64) (decide_eq_true (show (i:Int)<(l.length:Int) by omega))
   obtain ⟨x,hx⟩: ∃x,l[((i:Nat):Int).toNat]?=some x:=⟨_,by rw [Int.toNat_natCast];exact Yi hi⟩
   obtain ⟨y,hy⟩: ∃y,m[((i:Nat):Int).toNat]?=some y:=⟨_,by rw [Int.toNat_natCast];exact Yi (show i<m.length by omega)⟩
   have hin:=AZ (k:= .i64) (show (IntKind.i64).wrap ((i:Int)+1)=((i+1:Nat):Int) from IntWalk.i64_in _ (by omega))
   have S1:=Hr (j:=j) (k:=k) (x:=x) (y:=y)
   have hx':=hx
   have hy':=hy
   rw [Int.toNat_natCast] at hx' hy'
   by_cases hxy:x=y
   ·rw [decide_eq_true hxy] at S1
    repeat (first
     | refine Ah ?_|refine Ad ?_|refine Ab rfl ?_|refine Ac rfl ?_
     | ((first|refine Al (by kernel_rfl) ?_|refine Aq (by kernel_rfl) (by kernel_rfl) (by kernel_rfl) ?_)
        repeat (first
         | refine An (hl:=?_)
         | refine Ai (hl:=?_)
         | refine Az (hl:=?_)
         | refine AC (hl:=?_)
         | refine Ak (hl:=?_)
         | refine Cs (hl:=?_)
         | refine AJ (hl:=?_)
         | refine AI (hl:=?_)
         | refine AK (hl:=?_)
         | refine AH (hl:=?_)
         | refine Ar (hl:=?_)
         | refine C9 hx (by omega) (hl:=?_)
         | refine C9 hy (by omega) (hl:=?_)
         | refine Ap hA (hc:=S1) (hl:=?_))
        apply Ag.nil;try refine And.intro (by kernel_rfl) ?_)
     | refine Ae ?_|refine Af ?_)
    refine ⟨n-1,by omega,i+1,by omega,?_,?_⟩
    ·rw [List.take_add_one,List.take_add_one,ht,hx',hy',hxy]
    ·refine D3 ?_ ?_ rfl
     ·repeat (first|exact AR|(refine List.forall_mem_cons.2 ⟨?_,?_⟩;focus (first|exact Ent.of_eq rfl|(refine Ent.one' rfl ?_;(first|exact Aa.ratsLe (by omega)|exact Aa.ratsNil|exact Aa.glNil|(refine Aa.int ?_;omega)|(refine Aa.glLen ?_;first|omega|simp)|exact Aa.of_eq rfl|(refine Aa.q rfl ?_;omega)|exact Z0 _|exact Z2 _|exact Aa.z0 (k:=0)|exact Aa.z1 (k:=0)|exact Aa.z2 (k:=0)|exact Aa.z0|exact Aa.z1|exact Aa.z2))|(refine Ent.agg' rfl ?_;(repeat (first|exact EntL.nil' rfl|(refine EntL.cons' rfl ?_ ?_;focus (first|exact Aa.ratsLe (by omega)|exact Aa.ratsNil|exact Aa.glNil|(refine Aa.int ?_;omega)|(refine Aa.glLen ?_;first|omega|simp)|exact Aa.of_eq rfl|(refine Aa.q rfl ?_;omega)|exact Z0 _|exact Z2 _|exact Aa.z0 (k:=0)|exact Aa.z1 (k:=0)|exact Aa.z2 (k:=0)|exact Aa.z0|exact Aa.z1|exact Aa.z2))));done))))
     ·repeat (first|exact AR|(refine List.forall_mem_cons.2 ⟨?_,?_⟩;focus (first|exact C6 inferInstance|(refine Dk rfl ?_ rfl;focus ((repeat (first|exact EntL.nil' rfl|(refine EntL.cons' rfl ?_ ?_;focus (first|exact Aa.ratsLe (by omega)|exact Aa.ratsNil|exact Aa.glNil|(refine Aa.int ?_;omega)|(refine Aa.glLen ?_;first|omega|simp)|exact Aa.of_eq rfl|(refine Aa.q rfl ?_;omega)|exact Z0 _|exact Z2 _|exact Aa.z0 (k:=0)|exact Aa.z1 (k:=0)|exact Aa.z2 (k:=0)|exact Aa.z0|exact Aa.z1|exact Aa.z2))));done)))))
   ·rw [decide_eq_false hxy] at S1
    have hne:l≠m:=fun e=>hxy (by rw [e,hy'] at hx';exact (Option.some.inj hx').symm)
    rw [decide_eq_false hne]
    repeat (first
     | refine Ah ?_|refine Ad ?_|refine Ab rfl ?_|refine Ac rfl ?_
     | ((first|refine Al (by kernel_rfl) ?_|refine Aq (by kernel_rfl) (by kernel_rfl) (by kernel_rfl) ?_)
        repeat (first
         | refine An (hl:=?_)
         | refine Ai (hl:=?_)
         | refine Az (hl:=?_)
         | refine AC (hl:=?_)
         | refine Ak (hl:=?_)
         | refine Cs (hl:=?_)
         | refine AJ (hl:=?_)
         | refine AI (hl:=?_)
         | refine AK (hl:=?_)
         | refine AH (hl:=?_)
         | refine Ar (hl:=?_)
         | refine C9 hx (by omega) (hl:=?_)
         | refine C9 hy (by omega) (hl:=?_)
         | refine Ap hA (hc:=S1) (hl:=?_))
        apply Ag.nil;try refine And.intro (by kernel_rfl) ?_)
     | refine Ae ?_|refine Af ?_)
    refine AG (And.intro (Or.inr rfl) ?_)
    exact B7
  ·have bi:=BO (k:= .i64) (decide_eq_false (show ¬(i:Int)<(l.length:Int) by omega))
   have he:l=m:=by
    rw [List.take_of_length_le (by omega),List.take_of_length_le (by omega)] at ht
    exact ht
   rw [decide_eq_true he]
   repeat (first
    | refine Ah ?_|refine Ad ?_|refine Ab rfl ?_|refine Ac rfl ?_
    | ((first|refine Al (by kernel_rfl) ?_|refine Aq (by kernel_rfl) (by kernel_rfl) (by kernel_rfl) ?_)
       repeat (first
        | refine An (hl:=?_)
        | refine Ai (hl:=?_)
        | refine Az (hl:=?_)
        | refine AC (hl:=?_)
        | refine Ak (hl:=?_)
        | refine Cs (hl:=?_)
        | refine AJ (hl:=?_)
        | refine AI (hl:=?_)
        | refine AK (hl:=?_)
        | refine AH (hl:=?_)
        | refine Ar (hl:=?_))
       apply Ag.nil;try refine And.intro (by kernel_rfl) ?_)
    | refine Ae ?_|refine Af ?_)
   refine AG (And.intro (Or.inr rfl) ?_)
   exact B7
 ·have b0:=CI (k:= .i64) (a:=(l.length:Int)) (b:=(m.length:Int)) (decide_eq_true (show (l.length:Int)≠(m.length:Int) by omega))
  rw [decide_eq_false (show ¬l=m from fun e=>hlm (by rw [e]))]
  refine As Tryz.func24 rfl rfl rfl rfl rfl rfl ?_
  intro W0 base D μ0 hA hD
  repeat (first
   | refine Ah ?_|refine Ad ?_|refine Ab rfl ?_|refine Ac rfl ?_
   | ((first|refine Al (by kernel_rfl) ?_|refine Aq (by kernel_rfl) (by kernel_rfl) (by kernel_rfl) ?_)
      repeat (first
       | refine An (hl:=?_)
       | refine Ai (hl:=?_)
       | refine Az (hl:=?_)
       | refine AC (hl:=?_)
       | refine Ak (hl:=?_)
       | refine Cs (hl:=?_)
       | refine AJ (hl:=?_)
       | refine AI (hl:=?_)
       | refine AK (hl:=?_)
       | refine AH (hl:=?_)
       | refine Ar (hl:=?_))
      apply Ag.nil;try refine And.intro (by kernel_rfl) ?_)
   | refine Ae ?_|refine Af ?_)
  refine AG (And.intro (Or.inr rfl) ?_)
  exact B7
section
variable {P:Program} {X:Ctx} {σ:St} {Q:Exit→St→Prop} {tl:List Oper}
end
def QQ (σ:St) (k:Nat) (ks:List Nat) (p:Nat×List C):Prop:=(σ.sz p.1=p.2.length∧ ∀(i:Nat) c,p.2[i]?=some c→FzC σ k (σ.m p.1 i) c∧nl c)∧p.2.all (inC ks)=true
theorem QQ.of {σ:St} {k:Nat} {ks:List Nat} {p:Nat×List C} (h:DX σ ks p):QQ σ k ks p:=⟨⟨h.1.1,fun i c hc=>⟨.ent (h.1.2 i c hc).1,(h.1.2 i c hc).2⟩⟩,h.2⟩
theorem QQ.gl {α:Type} {n:Nat} {f:α→List D} (hf:Elm n f) {σ:St} {k kb len:Nat} {ks:List Nat} {l:List α} (hz:σ.sz k=(AE f l).length:=by exact rfl) (hm:Od (σ.m k) (AE f l):=by first|exact E3|exact Ef) (hz2:σ.sz kb=1:=by exact rfl) (hm2:σ.m kb 0= .gl k len n:=by exact rfl) (hlen:len=l.length:=by first|rfl|omega):QQ σ k ks (kb,[lsG n f l]):=by
 subst hlen
 have h:=T7 (f:=f) (l:=l) hf hz hm
 refine ⟨⟨hz2,fun i c hc=>?_⟩,by simp [inC]⟩
 match i,hc with
 | 0,hc=>
   cases hc
   refine ⟨?_,trivial⟩
   show FzC σ k (σ.m kb 0) _
   rw [hm2]
   cases h with
   | one h=>exact h
   | ent h=>exact .ent fun W0 μ sz w x hx=>h W0 μ sz w x hx
section
variable {P:Program} {X:Ctx} {ops l:List Oper} {σ:St} {K:List Eff→St→Prop} {s:Nat→AV} {z:Nat→Nat}
variable {dst:Option Tmp} {ty:TypeId} {pos:String} {af:Array Edge} {gd:Option (Nat×Bool)}
theorem OB {P:Program} (w:World) (t e:TypeId) (ie:TypeInfo) (hu:P.underlying t=some (.slice e)) (hie:P.info? e=some ie):
  (Instr.buildSlice t 0 #[]).run P w= .ok (.slice (some ⟨w.heap.size,0,none⟩) 0 0) (w.alloc (.cells #[] e)):=by
 simp [Instr.buildSlice,run_underlying hu,sizeOf,typeInfo,hie,Instr.fill,newRow]
 congr 2
 exact Array.ext (by simp) (fun i h1 h2=>by simp at h2)
theorem Ot {t e:TypeId} {agg:Bool} {n bytes:Nat} {zv:Value} [S:Sle P t e agg n bytes zv] {id:Nat} (hd: ∀t,dst=some t→t<X.n):
  Sim P X ⟨dst,.buildSlice t 0 #[],ty,pos,af,gd⟩ s z ⟨.one (.gl id 0 n),[],[],[]⟩:=by
 refine Sim.of0 fun W=>?_
 replace hd: ∀t,dst=some t→t<(X.at W).n:=hd
 generalize X.at W=X at hd⊢
 intro σ hs hsz _ hal a w hcn K Q hK
 obtain ⟨μ,hcn⟩:=hcn
 obtain ⟨inf,hi,hz,hsize,hby⟩:=S.info
 have hrun:(execOp a.eval ⟨dst,.buildSlice t 0 #[],ty,pos,af,gd⟩).run P w= .ok (.value (.slice (some ⟨w.heap.size,0,none⟩) 0 0)) (w.alloc (.cells #[] e)):=by
  simp [execOp,OB w t e inf S.hu hi]
 unfold Oper.wp
 rw [hrun]
 have hkp:Kp w (w.alloc (.cells #[] e)):=(Below.refl _ _).alloc (Yh _) _
 refine hK _ _ ⟨μ,?_⟩
 refine Cg (Wp hcn hkp) (d:=dst) hd (v:= .slice (some ⟨w.heap.size,0,none⟩) 0 0) (av:= .one (.gl id 0 n)) ⟨_,0,rfl,Yh _,fun _=>rfl,fun h=>absurd rfl h⟩
theorem IY {d:Nat} {t e:TypeId} {agg:Bool} {n bytes:Nat} {zv:Value} [S:Sle P t e agg n bytes zv] (hg:gOk ops σ.s gd:=by first|exact trivial|exact rfl) (hd:dB X.n (some d)=true:=by exact rfl)
  (hl:Ag P X ops l (σ.app (some d) ⟨.one (.gl d 0 n),[],[],[]⟩) (fun es σ'=>K (⟨.one (.gl d 0 n),[],[],[]⟩::es) σ')):Ag P X ops (⟨some d,.buildSlice t 0 #[],ty,pos,af,gd⟩::l) σ K:=
 .of (fun _ _ hl=>Run.step hg (Ot (CX hd)) (fun p hp=>by cases hp) B8 hl) hl
end
theorem VZ {α:Type} {n:Nat} {f:α→List D} (hf:Elm n f) (ks:List Nat) (l:List α):((AE f l).all fun c=>nlB c&&inC ks c)=true:=List.all_eq_true.2 fun c hc=>by
 obtain ⟨d,hd,rfl⟩:=List.mem_map.1 hc
 obtain ⟨a,_,hda⟩:=List.mem_flatMap.1 hd
 rw [List.all_eq_true.1 (hf.nl a) d hda,Fs (Sy d)]
 rfl
section
variable {P:Program} {X:Ctx} {ops l:List Oper} {σ:St} {K:List Eff→St→Prop} {s:Nat→AV} {z:Nat→Nat}
variable {dst:Option Tmp} {ty:TypeId} {pos:String} {af:Array Edge} {gd:Option (Nat×Bool)}
theorem Lw (d:Nat) (t e:TypeId) (a:Option Addr) (l c:Nat) (h:P.underlying t=some (.slice e)) (w:World):(Op.equalIn (d+1) t (.slice a l c) (.slice none 0 0)).run P w= .ok a.isNone w:=by
 cases a<;>simp [Op.equalIn,run_underlying h w]
theorem OA (t e:TypeId) (a:Option Addr) (l c:Nat) (h:P.underlying t=some (.slice e)) (w:World):(Op.equal t (.slice a l c) (.slice none 0 0)).run P w= .ok a.isNone w:=Lw 9999 t e a l c h w
theorem LK {t e u:TypeId} {x y:Operand} {agg:Bool} {n bytes:Nat} {zv:Value} [S:Sle P t e agg n bytes zv] {α:Type} {f:α→List D} {la:List α} (hx:evC s x= .one (lsG n f la)) (hne:la.flatMap f≠ []) (hy:evC s y= .one (.v (.slice none 0 0))):
  C8 P ⟨dst,.binOp .eql t x y u,ty,pos,af,gd⟩ s (.one (.v (.bool false))):=fun W0 μ sz w ρ hρ=>by
 have h:=hρ x (by simp [Op.operands])
 rw [hx] at h
 have h':=hρ y (by simp [Op.operands])
 rw [hy] at h'
 replace h':ρ y= .slice none 0 0:=h'
 unfold cv cv0 cc dd at h
 obtain ⟨_,ao,cap,hv,_,h3⟩:=h
 obtain ⟨b,off,rfl,_⟩:=h3 hne
 have h3:(Op.equal t (.slice (some ⟨b,off,none⟩) la.length cap) (.slice none 0 0)).run P w= .ok false w:=OA t e _ _ _ S.hu w
 refine ⟨.bool false,?_,rfl⟩
 have h4:(binOp .eql t (.slice (some ⟨b,off,none⟩) la.length cap) (.slice none 0 0)).run P w= .ok (.bool false) w:=by
  show (do pure (Value.bool (←Op.equal t _ (.slice none 0 0))):Sem Value).run P w=_
  rw [Sem.run_bind,h3]
  rfl
 have h5:(eqGuard .eql t x y (.slice (some ⟨b,off,none⟩) la.length cap) (.slice none 0 0)).run P w= .ok () w:=rfl
 show (do let v←(do eqGuard .eql t x y (ρ x) (ρ y);binOp .eql t (ρ x) (ρ y):Sem Value);pure (Next.value v):Sem Next).run P w=_
 rw [hv,h',Sem.run_bind,Sem.run_bind,h5,Result.andThen_ok,h4]
 rfl
theorem UR {t e u:TypeId} {x y:Operand} {agg:Bool} {n bytes:Nat} {zv:Value} [S:Sle P t e agg n bytes zv] {α:Type} {f:α→List D} {la:List α} (hne:la.flatMap f≠ []) (hg:gOk ops σ.s gd:=by first|exact trivial|exact rfl) (hd:dB X.n dst=true:=by exact rfl) (hx:evC σ.s x= .one (lsG n f la):=by exact rfl) (hy:evC σ.s y= .one (.v (.slice none 0 0)):=by exact rfl)
  (hl:Ag P X ops l (σ.app dst ⟨.one (.v (.bool false)),[],[],[]⟩) (fun es σ'=>K (⟨.one (.v (.bool false)),[],[],[]⟩::es) σ')):Ag P X ops (⟨dst,.binOp .eql t x y u,ty,pos,af,gd⟩::l) σ K:=
 BR (o:=⟨dst,.binOp .eql t x y u,ty,pos,af,gd⟩) hg hd (LK hx hne hy) hl
end
theorem Xn {j J:Nat} {σ:St} {ks:List Nat} {k:Nat} {l:List Rat} (h:j≤J) (hb:DX σ ks (k,AE (nmD j) l)):DX σ ks (k,AE (nmD J) l):=by
 have hl:(AE (nmD J) l).length=(AE (nmD j) l).length:=by rw [BF (n:=3) inferInstance,BF (n:=3) inferInstance]
 refine ⟨⟨hb.1.1.trans hl.symm,fun o c hc=>⟨?_,Ea (n:=3) inferInstance _ c (List.mem_of_getElem? hc)⟩⟩,DP ks l⟩
 have key: ∀(l:List Rat) (o:Nat) (c:C),(AE (nmD J) l)[o]?=some c→ ∃d,(AE (nmD j) l)[o]?=some d∧Aa d c:=by
  intro l
  induction l with
  | nil=>intro o c h;simp [AE] at h
  | cons x l ih=>
    intro o c hc
    match o with
    | 0=>exact ⟨_,rfl,by cases hc;exact Aa.q rfl h⟩
    | 1=>exact ⟨_,rfl,by cases hc;exact Aa.q rfl h⟩
    | 2=>exact ⟨_,rfl,by cases hc;exact Aa.q rfl h⟩
    | o+3=>exact ih o c hc
 obtain ⟨d,hd,he⟩:=key l o c hc
 have h2:=(hb.1.2 o d hd).1
 exact fun W0 μ sz w x hx=>he W0 μ sz w x (h2 W0 μ sz w x hx)
section
variable {P:Program} {X:Ctx} {ops l:List Oper} {σ:St} {K:List Eff→St→Prop}
variable {dst:Option Tmp} {ty:TypeId} {pos:String} {af:Array Edge} {gd:Option (Nat×Bool)}
theorem UI {A:World→Prop} {c:Call} {f:FuncId} {us:List AV} {R:AV} (hcl:BK σ.s c.callee=some (f,[]):=by exact rfl) (has:c.args.toList.map (evC σ.s)=us:=by exact rfl) (hc:Ctr P A f us R:=by assumption) (hA:A X.W0:=by assumption) (hM:MonoA A:=by infer_instance) (hF:Fun P f:=by infer_instance) (hg:gOk ops σ.s gd:=by first|exact trivial|exact rfl) (hd:dB X.n dst=true:=by exact rfl)
  (hl:Ag P X ops l (σ.app dst ⟨R,[],[],[]⟩) (fun es σ'=>K (⟨R,[],[],[]⟩::es) σ')):Ag P X ops (⟨dst,.call c,ty,pos,af,gd⟩::l) σ K:=
 Ap hA hc hg hd hcl (Ents.of_eq has) hl
theorem Oc {A:World→Prop} {c:Call} {f:FuncId} {us caps:List AV} {R:AV} {k1:Nat} {c1:List C} (hcl:BK σ.s c.callee=some (f,caps):=by exact rfl) (has:c.args.toList.map (evC σ.s)++caps=us:=by exact rfl) (hc:Ct P A f us [(k1,c1,c1)] R:=by assumption) (hA:A X.W0:=by assumption) (hM:MonoA A:=by infer_instance) (hF:Fun P f:=by infer_instance) (hg:gOk ops σ.s gd:=by first|exact trivial|exact rfl) (hd:dB X.n dst=true:=by exact rfl)
  (h1:rdL (σ.m k1) 0 c1.length=c1:=by exact rfl) (hb:((([(k1,c1)]:List (Nat×List C)).all (fun p=>Et σ.sz p.2.length p)&&([]:List (Nat×List C×List C)).all (fun p=>Et σ.sz p.2.2.length (p.1,p.2.1))&&((([(k1,c1)]:List (Nat×List C)).map (·.1)++([]:List (Nat×List C×List C)).map (·.1)).all fun k=>(c.args.toList.map (evC σ.s)++caps).any (EG k))&&ndB (([(k1,c1)]:List (Nat×List C)).map (·.1))))=true:=by exact rfl)
  (hl:Ag P X ops l (σ.app dst ⟨R,[(k1,0,c1)],[],[]⟩) (fun es σ'=>K (⟨R,[(k1,0,c1)],[],[]⟩::es) σ')):Ag P X ops (⟨dst,.call c,ty,pos,af,gd⟩::l) σ K:=by
 exact Lf hA [(k1,c1)] hc hg hd hcl (Ents.of_eq has) (List.forall_mem_cons.2 ⟨h1,AR⟩) hb hl
theorem Ob {A:World→Prop} {c:Call} {f:FuncId} {us caps:List AV} {R:AV} {k1 k2:Nat} {c1 c2:List C} (hcl:BK σ.s c.callee=some (f,caps):=by exact rfl) (has:c.args.toList.map (evC σ.s)++caps=us:=by exact rfl) (hc:Ct P A f us [(k1,c1,c1),(k2,c2,c2)] R:=by assumption) (hA:A X.W0:=by assumption) (hM:MonoA A:=by infer_instance) (hF:Fun P f:=by infer_instance) (hg:gOk ops σ.s gd:=by first|exact trivial|exact rfl) (hd:dB X.n dst=true:=by exact rfl)
  (h1:rdL (σ.m k1) 0 c1.length=c1:=by exact rfl) (h2:rdL (σ.m k2) 0 c2.length=c2:=by exact rfl) (hb:((([(k1,c1),(k2,c2)]:List (Nat×List C)).all (fun p=>Et σ.sz p.2.length p)&&([]:List (Nat×List C×List C)).all (fun p=>Et σ.sz p.2.2.length (p.1,p.2.1))&&((([(k1,c1),(k2,c2)]:List (Nat×List C)).map (·.1)++([]:List (Nat×List C×List C)).map (·.1)).all fun k=>(c.args.toList.map (evC σ.s)++caps).any (EG k))&&ndB (([(k1,c1),(k2,c2)]:List (Nat×List C)).map (·.1))))=true:=by exact rfl)
  (hl:Ag P X ops l (σ.app dst ⟨R,[(k1,0,c1),(k2,0,c2)],[],[]⟩) (fun es σ'=>K (⟨R,[(k1,0,c1),(k2,0,c2)],[],[]⟩::es) σ')):Ag P X ops (⟨dst,.call c,ty,pos,af,gd⟩::l) σ K:=
 Lf hA [(k1,c1),(k2,c2)] hc hg hd hcl (Ents.of_eq has) (List.forall_mem_cons.2 ⟨h1,List.forall_mem_cons.2 ⟨h2,AR⟩⟩) hb hl
theorem Oa {A:World→Prop} {c:Call} {f:FuncId} {us caps:List AV} {R:AV} {k1 k2 k3:Nat} {c1 c2 c3:List C} (hcl:BK σ.s c.callee=some (f,caps):=by exact rfl) (has:c.args.toList.map (evC σ.s)++caps=us:=by exact rfl) (hc:Ct P A f us [(k1,c1,c1),(k2,c2,c2),(k3,c3,c3)] R:=by assumption) (hA:A X.W0:=by assumption) (hM:MonoA A:=by infer_instance) (hF:Fun P f:=by infer_instance) (hg:gOk ops σ.s gd:=by first|exact trivial|exact rfl) (hd:dB X.n dst=true:=by exact rfl)
  (h1:rdL (σ.m k1) 0 c1.length=c1:=by exact rfl) (h2:rdL (σ.m k2) 0 c2.length=c2:=by exact rfl) (h3:rdL (σ.m k3) 0 c3.length=c3:=by exact rfl) (hb:((([(k1,c1),(k2,c2),(k3,c3)]:List (Nat×List C)).all (fun p=>Et σ.sz p.2.length p)&&([]:List (Nat×List C×List C)).all (fun p=>Et σ.sz p.2.2.length (p.1,p.2.1))&&((([(k1,c1),(k2,c2),(k3,c3)]:List (Nat×List C)).map (·.1)++([]:List (Nat×List C×List C)).map (·.1)).all fun k=>(c.args.toList.map (evC σ.s)++caps).any (EG k))&&ndB (([(k1,c1),(k2,c2),(k3,c3)]:List (Nat×List C)).map (·.1))))=true:=by exact rfl)
  (hl:Ag P X ops l (σ.app dst ⟨R,[(k1,0,c1),(k2,0,c2),(k3,0,c3)],[],[]⟩) (fun es σ'=>K (⟨R,[(k1,0,c1),(k2,0,c2),(k3,0,c3)],[],[]⟩::es) σ')):Ag P X ops (⟨dst,.call c,ty,pos,af,gd⟩::l) σ K:=
 Lf hA [(k1,c1),(k2,c2),(k3,c3)] hc hg hd hcl (Ents.of_eq has) (List.forall_mem_cons.2 ⟨h1,List.forall_mem_cons.2 ⟨h2,List.forall_mem_cons.2 ⟨h3,AR⟩⟩⟩) hb hl
theorem QN {A:World→Prop} {c:Call} {f:FuncId} {us caps:List AV} {k:Nat} {b d:List C} {R:AV} (hcl:BK σ.s c.callee=some (f,caps):=by exact rfl) (has:c.args.toList.map (evC σ.s)++caps=us:=by exact rfl) (hc:Ct P A f us [(k,b,d)] R:=by assumption) (hA:A X.W0:=by assumption) (hM:MonoA A:=by infer_instance) (hF:Fun P f:=by infer_instance) (hg:gOk ops σ.s gd:=by first|exact trivial|exact rfl) (hd:dB X.n dst=true:=by exact rfl) (hrw:rdL (σ.m k) 0 b.length=b:=by exact rfl)
  (hb:((([]:List (Nat×List C)).all (fun p=>Et σ.sz p.2.length p)&& [(k,b,d)].all (fun p=>Et σ.sz p.2.2.length (p.1,p.2.1))&&((([]:List (Nat×List C)).map (·.1)++ [(k,b,d)].map (·.1)).all fun k=>(c.args.toList.map (evC σ.s)++caps).any (KE k)))=true):=by exact rfl)
  (hl:Ag P X ops l (σ.app dst ⟨R,[(k,0,b)],[(k,0,d)],[]⟩) (fun es σ'=>K (⟨R,[(k,0,b)],[(k,0,d)],[]⟩::es) σ')):Ag P X ops (⟨dst,.call c,ty,pos,af,gd⟩::l) σ K:=
 Cj hA hc hg hd hcl (Ents.of_eq has) hrw hb hl
theorem QM {A:World→Prop} {c:Call} {f:FuncId} {us:List AV} {cs:List C} {d:Nat} (hcl:BK σ.s c.callee=some (f,[]):=by exact rfl) (has:c.args.toList.map (evC σ.s)=us:=by exact rfl) (hc:UM P A f us cs:=by assumption) (hA:A X.W0:=by assumption) (hM:MonoA A:=by infer_instance) (hF:Fun P f:=by infer_instance) (hg:gOk ops σ.s gd:=by first|exact trivial|exact rfl) (hd:dB X.n (some d)=true:=by exact rfl) (hf:(Nat.beq (σ.sz d) 0&&!cs.isEmpty)=true:=by exact rfl)
  (hl:Ag P X ops l (σ.app (some d) ⟨.one (.ptr d 0),[],[],[(d,cs)]⟩) (fun es σ'=>K (⟨.one (.ptr d 0),[],[],[(d,cs)]⟩::es) σ')):Ag P X ops (⟨some d,.call c,ty,pos,af,gd⟩::l) σ K:=
 Lg hA hc hg hd hf hcl (Ents.of_eq has) hl
theorem QL {A:World→Prop} {c:Call} {f:FuncId} {us:List AV} {k len n:Nat} {b d:List C} {R:AV} (hcl:BK σ.s c.callee=some (f,[]):=by exact rfl) (has:c.args.toList.map (evC σ.s)=us:=by exact rfl) (hc:Ct P A f us [(k,b,d)] R:=by assumption) (hA:A X.W0:=by assumption) (hM:MonoA A:=by infer_instance) (hF:Fun P f:=by infer_instance) (hg:gOk ops σ.s gd:=by first|exact trivial|exact rfl) (hd:dB X.n dst=true:=by exact rfl)
  (hm1:c.args.toList.map (evC σ.s)= .one (.gl k len n)::us.tail:=by exact rfl) (hz:σ.sz k=b.length:=by exact rfl) (hm:Od (σ.m k) b:=by first|exact E3|exact Ef) (hlen:0<len:=by omega) (hbd:b.length=d.length:=by assumption) (hb0:0<b.length:=by assumption)
  (hl:Ag P X ops l (σ.app dst ⟨R,[(k,0,b)],[(k,0,d)],[]⟩) (fun es σ'=>K (⟨R,[(k,0,b)],[(k,0,d)],[]⟩::es) σ')):Ag P X ops (⟨dst,.call c,ty,pos,af,gd⟩::l) σ K:=
 US hA hc ⟨hlen,hbd,hb0⟩ hg hd hcl (Ents.of_eq has) hm1 hz hm hl
theorem N9 {A:World→Prop} {c:Call} {f:FuncId} {us caps:List AV} {k:Nat} {cs:List C} {R:AV} (hcl:BK σ.s c.callee=some (f,caps):=by exact rfl) (has:c.args.toList.map (evC σ.s)++caps=us:=by exact rfl) (hc:Es P A f us [] [(k,cs)] R:=by assumption) (hA:A X.W0:=by assumption) (hM:MonoA A:=by infer_instance) (hF:Fun P f:=by infer_instance) (hg:gOk ops σ.s gd:=by first|exact trivial|exact rfl) (hd:dB X.n dst=true:=by exact rfl)
  (hne:0<cs.length:=by assumption) (hb:Nat.beq (σ.sz k) 0=true:=by exact rfl)
  (hl:Ag P X ops l (σ.app dst ⟨R,[],[],[(k,cs)]⟩) (fun es σ'=>K (⟨R,[],[],[(k,cs)]⟩::es) σ')):Ag P X ops (⟨dst,.call c,ty,pos,af,gd⟩::l) σ K:=
 Ml hA [] hc hne hg hd hcl (Ents.of_eq has) AR (by simp [ndB,hb]) hl
theorem Wv {α:Type} {f:α→List D} {la:List α} {b:α} {t e:TypeId} {x y:Operand} {agg:Bool} {n bytes:Nat} {zv:Value} [S:Sle P t e agg n bytes zv] {ik:IntKind} {i:Int} (hx:evC σ.s x= .one (lsG n f la):=by exact rfl) (hy:evC σ.s y= .one (.v (.int ik i)):=by exact rfl) (ha:la[i.toNat]?=some b:=by assumption) (h0:0≤i:=by omega) (hg:gOk ops σ.s gd:=by first|exact trivial|exact rfl) (hd:dB X.n dst=true:=by exact rfl) (hf: ∀a,(f a).length=n:=by intro _;rfl)
  (hl:Ag P X ops l (σ.app dst ⟨.one (.fp (f b)),[],[],[]⟩) (fun es σ'=>K (⟨.one (.fp (f b)),[],[],[]⟩::es) σ')):Ag P X ops (⟨dst,.indexAddr t x y,ty,pos,af,gd⟩::l) σ K:=C9 ha h0 hg hd hx hy hf hl
theorem UH {t e:TypeId} {x y:Operand} {agg:Bool} {n bytes:Nat} {zv:Value} [S:Sle P t e agg n bytes zv] {k len:Nat} {ik:IntKind} {i:Int} (hx:evC σ.s x= .one (.gl k len n):=by exact rfl) (hy:evC σ.s y= .one (.v (.int ik i)):=by exact rfl) (hi:0≤i∧i<len:=by first|assumption|exact ⟨by omega,by omega⟩) (hg:gOk ops σ.s gd:=by first|exact trivial|exact rfl) (hd:dB X.n dst=true:=by exact rfl)
  (hl:Ag P X ops l (σ.app dst ⟨.one (.ptr k (i.toNat*n)),[],[],[]⟩) (fun es σ'=>K (⟨.one (.ptr k (i.toNat*n)),[],[],[]⟩::es) σ')):Ag P X ops (⟨dst,.indexAddr t x y,ty,pos,af,gd⟩::l) σ K:=Ek hi hg hd hx hy hl
theorem QJ {t:TypeId} {x:Operand} {agg:Bool} {n:Nat} [hT:Tsz P t agg n] {k m:Nat} {i:Int} {cs:List C} (hx:evC σ.s x= .one (.ptr k (i.toNat*m)):=by exact rfl) (hm:rdL (σ.m k) (i.toNat*m) n=cs:=by assumption) (hz:i.toNat*m+n≤σ.sz k:=by assumption) (hg:gOk ops σ.s gd:=by first|exact trivial|exact rfl) (hd:dB X.n dst=true:=by exact rfl) (hc:(Nat.blt 0 n&&(agg || Nat.beq n 1))=true:=by exact rfl)
  (hl:Ag P X ops l (σ.app dst ⟨mkA agg cs,[(k,i.toNat*m,cs)],[],[]⟩) (fun es σ'=>K (⟨mkA agg cs,[(k,i.toNat*m,cs)],[],[]⟩::es) σ')):Ag P X ops (⟨dst,.load t x,ty,pos,af,gd⟩::l) σ K:=DL hz hm hg hd hx hc hl
theorem N8 {t:TypeId} {x y:Operand} {agg:Bool} {n:Nat} [hT:Tsz P t agg n] {k m:Nat} {i:Int} {av:AV} (hx:evC σ.s x= .one (.ptr k (i.toNat*m)):=by exact rfl) (hz:i.toNat*m+n≤σ.sz k:=by assumption) (hg:gOk ops σ.s gd:=by first|exact trivial|exact rfl) (hd:dB X.n dst=true:=by exact rfl) (hy:evC σ.s y=av:=by exact rfl) (hc:(Nat.beq (AB av).length n&&(Db av || Nat.beq n 1)&&Nat.blt 0 n&&(AB av).all nlB)=true:=by exact rfl)
  (hl:Ag P X ops l (σ.app dst ⟨.junk,[],[(k,i.toNat*m,AB av)],[]⟩) (fun es σ'=>K (⟨.junk,[],[(k,i.toNat*m,AB av)],[]⟩::es) σ')):Ag P X ops (⟨dst,.store t x y,ty,pos,af,gd⟩::l) σ K:=GP hz hg hd hx hy hc hl
theorem UG {d:Nat} {t e:TypeId} {lo co:Operand} {agg:Bool} {n bytes:Nat} {zv:Value} [S:Sle P t e agg n bytes zv] {kl kc:IntKind} {cap:Nat} (hx:evC σ.s lo= .one (.v (.int kl (cap:Nat))):=by exact rfl) (hy:evC σ.s co= .one (.v (.int kc (cap:Nat))):=by exact rfl) (hp:0<cap:=by omega) (hb:bytes*cap≤281474976710656:=by omega) (hb2:cap≤9223372036854775807:=by omega) (hg:gOk ops σ.s gd:=by first|exact trivial|exact rfl) (hd:dB X.n (some d)=true:=by exact rfl) (hf:Nat.beq (σ.sz d) 0=true:=by exact rfl)
  (hl:Ag P X ops l (σ.app (some d) ⟨.one (.gl d cap n),[],[],[(d,BQ cap zv.cells.toList)]⟩) (fun es σ'=>K (⟨.one (.gl d cap n),[],[],[(d,BQ cap zv.cells.toList)]⟩::es) σ')):Ag P X ops (⟨some d,.makeSlice t lo co,ty,pos,af,gd⟩::l) σ K:=Si hp hb hb2 hg hd hx hy hf hl
theorem QK {t e u:TypeId} {x y:Operand} {agg:Bool} {n bytes:Nat} {zv:Value} [S:Sle P t e agg n bytes zv] {α:Type} {f:α→List D} {la:List α} (hx:evC σ.s x= .one (lsG n f la):=by exact rfl) (hne:la.flatMap f≠ []:=by assumption) (hg:gOk ops σ.s gd:=by first|exact trivial|exact rfl) (hd:dB X.n dst=true:=by exact rfl) (hy:evC σ.s y= .one (.v (.slice none 0 0)):=by exact rfl)
  (hl:Ag P X ops l (σ.app dst ⟨.one (.v (.bool false)),[],[],[]⟩) (fun es σ'=>K (⟨.one (.v (.bool false)),[],[],[]⟩::es) σ')):Ag P X ops (⟨dst,.binOp .eql t x y u,ty,pos,af,gd⟩::l) σ K:=UR hne hg hd hx hy hl
theorem QH {α:Type} {f:α→List D} {la:List α} {t e:TypeId} {x lo hi:Operand} {agg:Bool} {n bytes:Nat} {zv:Value} [S:Sle P t e agg n bytes zv] {k k':IntKind} {a b:Nat} (hx:evC σ.s x= .one (lsG n f la):=by exact rfl) (hlo:evC σ.s lo= .one (.v (.int k (a:Nat))):=by exact rfl) (hhi:evC σ.s hi= .one (.v (.int k' (b:Nat))):=by exact rfl) (hab:a≤b:=by omega) (hb:b≤la.length:=by omega) (hg:gOk ops σ.s gd:=by first|exact trivial|exact rfl) (hd:dB X.n dst=true:=by exact rfl) (hf: ∀a,(f a).length=n:=by intro _;rfl)
  (hl:Ag P X ops l (σ.app dst ⟨.one (lsG n f ((la.take b).drop a)),[],[],[]⟩) (fun es σ'=>K (⟨.one (lsG n f ((la.take b).drop a)),[],[],[]⟩::es) σ')):Ag P X ops (⟨dst,.slice t x (some lo) (some hi) none,ty,pos,af,gd⟩::l) σ K:=Hl hab hb (.some hlo rfl) (.some hhi rfl) hg hd hx hf hl
theorem QI {α:Type} {f:α→List D} {la:List α} {t e:TypeId} {x lo:Operand} {agg:Bool} {n bytes:Nat} {zv:Value} [S:Sle P t e agg n bytes zv] {k:IntKind} {a:Nat} (hx:evC σ.s x= .one (lsG n f la):=by exact rfl) (hlo:evC σ.s lo= .one (.v (.int k (a:Nat))):=by exact rfl) (hab:a≤la.length:=by omega) (hg:gOk ops σ.s gd:=by first|exact trivial|exact rfl) (hd:dB X.n dst=true:=by exact rfl) (hf: ∀a,(f a).length=n:=by intro _;rfl)
  (hl:Ag P X ops l (σ.app dst ⟨.one (lsG n f ((la.take la.length).drop a)),[],[],[]⟩) (fun es σ'=>K (⟨.one (lsG n f ((la.take la.length).drop a)),[],[],[]⟩::es) σ')):Ag P X ops (⟨dst,.slice t x (some lo) none none,ty,pos,af,gd⟩::l) σ K:=Hl hab (Yh _) (.some hlo rfl) .none hg hd hx hf hl
theorem QG {op:Op} {g:Nat} {want:Bool} (hg:Gu ops σ.s g= .one (.v undef):=by exact rfl) (hl:Ag P X ops l (σ.app dst En) (fun es σ'=>K (En::es) σ')):Ag P X ops (⟨dst,op,ty,pos,af,some (g,want)⟩::l) σ K:=
 .of (fun _ _ hl=>by
  refine .cons (e:=En) ?_ (fun p hp=>by cases hp) B8 hl
  have h:=hg
  unfold Gu at h
  split at h
  ·rename_i o ho
   split at h
   ·rename_i d hd
    exact ⟨o,ho,d,hd,.inr (.inr ⟨h,rfl⟩)⟩
   ·cases h
  ·cases h) hl
end
section
variable {P:Program} {X:Ctx} {σ σ':St} {Q:Exit→St→Prop} {id:Nat} {L:List Oper} {es:List Eff}
theorem AT (hq:Q .normal σ') (hn:(L.all fun o=>match o.dst with|some t=>Nat.blt t X.n|none=>true)=true:=by kernel_rfl) (hr:Ag P X L L σ (fun e s=>e=es∧s=σ'):=by ((repeat (first|refine QJ (hl:=?_)|refine N8 (hl:=?_)|refine Ao (hl:=?_)|refine A8 (hl:=?_)|refine An (hl:=?_)|refine Ai (hl:=?_)|refine Az (hl:=?_)|refine DQ (hl:=?_)|refine Da (hl:=?_)|refine At (hl:=?_)|refine A0 (hl:=?_)|refine A5 (hl:=?_)|refine AD (hl:=?_)|refine AC (hl:=?_)|refine PR (hl:=?_)|refine PQ (hl:=?_)|refine Fi (hl:=?_)|refine Cs (hl:=?_)|refine AM (hl:=?_)|refine AN (hl:=?_)|refine Io (hl:=?_)|refine D5 (hl:=?_)|refine F5 (hl:=?_)|refine AK (hl:=?_)|refine AL (hl:=?_)|refine DD (hl:=?_)|refine Sh (hl:=?_)|refine AJ (hl:=?_)|refine AI (hl:=?_)|refine AH (hl:=?_)|refine Ar (hl:=?_)|refine Mk (hl:=?_)|refine Au (hl:=?_)|refine IY (hl:=?_)|refine Ak (hl:=?_)|refine UI (hl:=?_)|refine Oc (hl:=?_)|refine Ob (hl:=?_)|refine Oa (hl:=?_)|refine QN (hl:=?_)|refine QM (hl:=?_)|refine QL (hl:=?_)|refine N9 (hl:=?_)|refine Wv (hl:=?_)|refine UH (hl:=?_)|refine UG (hl:=?_)|refine QK (hl:=?_)|refine QH (hl:=?_)|refine QI (hl:=?_)|refine QG (hl:=?_)));exact Ag.nil ⟨rfl,rfl⟩)):Aw P X (.region id L.toArray false) σ Q:=by
 obtain ⟨e,s,h1,rfl,rfl⟩:=hr
 exact N6 hn h1 hq
theorem AU (hq:Q .normal σ') (hm:P.follows .mixedOrders=true:=by kernel_rfl) (hd:Pw L=true:=by kernel_rfl) (hn:(L.all fun o=>match o.dst with|some t=>Nat.blt t X.n|none=>true)=true:=by kernel_rfl) (hr:Ag P X L L σ (fun e s=>e=es∧s=σ'):=by ((repeat (first|refine QJ (hl:=?_)|refine N8 (hl:=?_)|refine Ao (hl:=?_)|refine A8 (hl:=?_)|refine An (hl:=?_)|refine Ai (hl:=?_)|refine Az (hl:=?_)|refine DQ (hl:=?_)|refine Da (hl:=?_)|refine At (hl:=?_)|refine A0 (hl:=?_)|refine A5 (hl:=?_)|refine AD (hl:=?_)|refine AC (hl:=?_)|refine PR (hl:=?_)|refine PQ (hl:=?_)|refine Fi (hl:=?_)|refine Cs (hl:=?_)|refine AM (hl:=?_)|refine AN (hl:=?_)|refine Io (hl:=?_)|refine D5 (hl:=?_)|refine F5 (hl:=?_)|refine AK (hl:=?_)|refine AL (hl:=?_)|refine DD (hl:=?_)|refine Sh (hl:=?_)|refine AJ (hl:=?_)|refine AI (hl:=?_)|refine AH (hl:=?_)|refine Ar (hl:=?_)|refine Mk (hl:=?_)|refine Au (hl:=?_)|refine IY (hl:=?_)|refine Ak (hl:=?_)|refine UI (hl:=?_)|refine Oc (hl:=?_)|refine Ob (hl:=?_)|refine Oa (hl:=?_)|refine QN (hl:=?_)|refine QM (hl:=?_)|refine QL (hl:=?_)|refine N9 (hl:=?_)|refine Wv (hl:=?_)|refine UH (hl:=?_)|refine UG (hl:=?_)|refine QK (hl:=?_)|refine QH (hl:=?_)|refine QI (hl:=?_)|refine QG (hl:=?_)));exact Ag.nil ⟨rfl,rfl⟩)) (hc:chk L es=true:=by kernel_rfl):Aw P X (.region id L.toArray true) σ Q:=by
 obtain ⟨e,s,h1,rfl,rfl⟩:=hr
 exact QB hm hd hn h1 hc hq
theorem BH {ss:List (Nat×AV)} {bs:List (Nat×List C)} (h1: ∀p∈ss,Ent (σ.s p.1) p.2:=by (repeat (first|exact AR|(refine List.forall_mem_cons.2 ⟨?_,?_⟩;focus (first|exact Ent.of_eq rfl|(refine Ent.one' rfl ?_;(first|exact Aa.qs (by assumption)|exact Aa.ratsLe (by omega)|exact Aa.ratsNil|exact Aa.glNil|(refine Aa.int ?_;omega)|(refine Aa.glLen ?_;first|omega|simp)|exact Aa.of_eq rfl|(refine Aa.q rfl ?_;omega)|exact Aa.qe (by assumption) (by assumption)|exact Z0 _|exact Z2 _|exact Aa.z0 (k:=0)|exact Aa.z1 (k:=0)|exact Aa.z2 (k:=0)|exact Aa.z0|exact Aa.z1|exact Aa.z2))|(refine Ent.agg' rfl ?_;(repeat (first|exact EntL.nil' rfl|(refine EntL.cons' rfl ?_ ?_;focus (first|exact Aa.qs (by assumption)|exact Aa.ratsLe (by omega)|exact Aa.ratsNil|exact Aa.glNil|(refine Aa.int ?_;omega)|(refine Aa.glLen ?_;first|omega|simp)|exact Aa.of_eq rfl|(refine Aa.q rfl ?_;omega)|exact Aa.qe (by assumption) (by assumption)|exact Z0 _|exact Z2 _|exact Aa.z0 (k:=0)|exact Aa.z1 (k:=0)|exact Aa.z2 (k:=0)|exact Aa.z0|exact Aa.z1|exact Aa.z2))));(first|done|fail))))))) (h2: ∀p∈bs,DX σ (bs.map (·.1)) p:=by (repeat (first|exact AR|(refine List.forall_mem_cons.2 ⟨?_,?_⟩;focus (first|exact C6 inferInstance|(refine Hg inferInstance (by omega) ?_;(repeat (first|exact EntL.nil' rfl|(refine EntL.cons' rfl ?_ ?_;focus (first|exact Aa.qs (by assumption)|exact Aa.ratsLe (by omega)|exact Aa.ratsNil|exact Aa.glNil|(refine Aa.int ?_;omega)|(refine Aa.glLen ?_;first|omega|simp)|exact Aa.of_eq rfl|(refine Aa.q rfl ?_;omega)|exact Aa.qe (by assumption) (by assumption)|exact Z0 _|exact Z2 _|exact Aa.z0 (k:=0)|exact Aa.z1 (k:=0)|exact Aa.z2 (k:=0)|exact Aa.z0|exact Aa.z1|exact Aa.z2))));(first|done|fail))|(refine La inferInstance ?_;(repeat (first|exact EntL.nil' rfl|(refine EntL.cons' rfl ?_ ?_;focus (first|exact Aa.qs (by assumption)|exact Aa.ratsLe (by omega)|exact Aa.ratsNil|exact Aa.glNil|(refine Aa.int ?_;omega)|(refine Aa.glLen ?_;first|omega|simp)|exact Aa.of_eq rfl|(refine Aa.q rfl ?_;omega)|exact Aa.qe (by assumption) (by assumption)|exact Z0 _|exact Z2 _|exact Aa.z0 (k:=0)|exact Aa.z1 (k:=0)|exact Aa.z2 (k:=0)|exact Aa.z0|exact Aa.z1|exact Aa.z2))));(first|done|fail))|(refine VX inferInstance ?_;(repeat (first|exact EntL.nil' rfl|(refine EntL.cons' rfl ?_ ?_;focus (first|exact Aa.qs (by assumption)|exact Aa.ratsLe (by omega)|exact Aa.ratsNil|exact Aa.glNil|(refine Aa.int ?_;omega)|(refine Aa.glLen ?_;first|omega|simp)|exact Aa.of_eq rfl|(refine Aa.q rfl ?_;omega)|exact Aa.qe (by assumption) (by assumption)|exact Z0 _|exact Z2 _|exact Aa.z0 (k:=0)|exact Aa.z1 (k:=0)|exact Aa.z2 (k:=0)|exact Aa.z0|exact Aa.z1|exact Aa.z2))));(first|done|fail))|exact N5 (la:= []) inferInstance|(refine Dk rfl ?_ rfl;(repeat (first|exact EntL.nil' rfl|(refine EntL.cons' rfl ?_ ?_;focus (first|exact Aa.qs (by assumption)|exact Aa.ratsLe (by omega)|exact Aa.ratsNil|exact Aa.glNil|(refine Aa.int ?_;omega)|(refine Aa.glLen ?_;first|omega|simp)|exact Aa.of_eq rfl|(refine Aa.q rfl ?_;omega)|exact Aa.qe (by assumption) (by assumption)|exact Z0 _|exact Z2 _|exact Aa.z0 (k:=0)|exact Aa.z1 (k:=0)|exact Aa.z2 (k:=0)|exact Aa.z0|exact Aa.z1|exact Aa.z2))));(first|done|fail)))))))
  (hb:((ss.all fun p=>inA (bs.map (·.1)) p.2)&&ndB (bs.map (·.1))&&(X.ps.all fun k=>(bs.map (·.1)).any (Nat.beq k)))=true:=by exact rfl):Wk X σ ss bs:=D3 h1 h2 hb
theorem Uc {c d:C} (h:Aa c d:=by (first|exact Aa.ratsLe (by omega)|exact Aa.ratsNil|exact Aa.glNil|(refine Aa.int ?_;omega)|(refine Aa.glLen ?_;first|omega|simp)|exact Aa.of_eq rfl|(refine Aa.q rfl ?_;omega)|exact Z0 _|exact Z2 _|exact Aa.z0 (k:=0)|exact Aa.z1 (k:=0)|exact Aa.z2 (k:=0)|exact Aa.z0|exact Aa.z1|exact Aa.z2)):Aa c d:=h
theorem Ub {l m:List C} (h:EntL l m:=by ((repeat (first|exact EntL.nil' rfl|(refine EntL.cons' rfl ?_ ?_;focus (exact Uc))));(first|done|fail))):EntL l m:=h
theorem XU {a b:AV} (h:Ent a b:=by (first|exact Ent.of_eq rfl|(refine Ent.one' rfl ?_;exact Uc)|(refine Ent.agg' rfl ?_;exact Ub))):Ent a b:=h
theorem NM {k:Nat} {ss:List (Nat×AV)} {bs:List (Nat×List C)} (h1: ∀p∈ss,FzA σ k (σ.s p.1) p.2:=by (repeat (first|exact AR|(refine List.forall_mem_cons.2 ⟨?_,?_⟩;focus (first|exact T7 inferInstance|(refine FzA.ent ?_;exact XU))))))
  (h2: ∀p∈bs,DX σ (bs.map (·.1)) p:=by (repeat (first|exact AR|(refine List.forall_mem_cons.2 ⟨?_,?_⟩;focus (first|exact C6 inferInstance|(refine Dk rfl ?_ rfl;exact Ub))))))
  (hb:((ss.all fun p=>inA (bs.map (·.1)) p.2)&&ndB (bs.map (·.1))&&(X.ps.all fun k=>(bs.map (·.1)).any (Nat.beq k))&&(!X.ps.any (Nat.beq k))&&(bs.all fun p=>!Nat.beq p.1 k))=true:=by exact rfl):Fk X σ k ss bs:=XT h1 h2 hb
end
theorem XW {X:Ctx} {μ:Nat→Nat×Nat} {σ:St} {a:Act} {w w' W':World} (h:Cn X μ σ a w) (k:Kp w w') (hE:Ext X.W0 W') (hF:Fr W' w') (hnew: ∀g,alive W' g→alive X.W0 g∨w.heap.size≤g):Im X W'∧Cn (X.at W') μ σ a w':=by
 have kl:=Kl.of_kp k
 have ext: ∀i,σ.sz i≠0→μ i=μ i∧σ.sz i≠0:=fun i hi=>⟨rfl,hi⟩
 refine ⟨⟨hE,fun g hg=>(hnew g hg).imp_right fun h1=>Nat.le_trans h.kd.size h1⟩,hF,h.kd.trans (.of_kp k),h.defers,h.size,fun t=>(h.slot t).mono kl ext hE,fun i hi=>?_,h.inj,fun i hi=>⟨fun ha=>?_,(h.own i hi).2⟩,h.par⟩
 ·obtain ⟨cs,e,h1,h2,h4,h3⟩:=h.blk i hi
  exact ⟨cs,e,by rw [k.block _ (Array.getElem?_eq_some_iff.1 h1).1];exact h1,h2,h4,fun o x hx=>Ei (h3 o x hx) kl ext hE⟩
 ·rcases hnew _ ha with h1|h1
  ·exact (h.own i hi).1 h1
  ·obtain ⟨cs,e,h2,_⟩:=h.blk i hi
   have:=(Array.getElem?_eq_some_iff.1 h2).1
   omega
section
variable {P:Program} {X:Ctx} {ops l:List Oper} {σ:St} {K:List Eff→St→Prop} {s:Nat→AV} {z:Nat→Nat}
variable {dst:Option Tmp} {ty:TypeId} {pos:String} {af:Array Edge} {gd:Option (Nat×Bool)}
theorem MH {α:Type} {f:α→List D} {la:List α} {t e:TypeId} {parts:Array (Nat×Operand)} {agg:Bool} {n bytes:Nat} {zv:Value} (hEl:Elm n f) [S:Sle P t e agg n bytes zv] {len:Nat} {ps:List (Nat×AV)} {cs:List C} (hlen:la.length=len) (hd: ∀t,dst=some t→t<X.n) (hps:parts.toList.map (fun p=>(p.1,evC s p.2))=ps)
  (hnl:(ps.all fun p=>(AB p.2).all nlB)=true) (hf:DB (fun i=>some (i*n,n)) (BQ len zv.cells.toList) ps=some cs) (hnl2:cs.all nlB=true) (hb:Nat.ble (len*n) 16777216=true) (hp:Nat.blt 0 len=true) (hE:EntL cs (AE f la)):
  Sim P X ⟨dst,.buildSlice t len parts,ty,pos,af,gd⟩ s z ⟨.one (lsG n f la),[],[],[]⟩:=by
 refine Sim.of1 fun W hW=>?_
 clear hW
 replace hd: ∀t,dst=some t→t<(X.at W).n:=hd
 generalize X.at W=X at hd⊢
 intro σ hs hsz _ hal a w hcn K Q hK
 obtain ⟨μ,hcn⟩:=hcn
 obtain ⟨inf,hi,hz,hsize,hby⟩:=S.info
 have hb:=Nat.le_of_ble_eq_true hb
 have hp:0<len:=by simpa using hp
 have hzs:=S.size
 have hpos:=S.pos
 obtain ⟨ol,rfl⟩: ∃ol:List (Nat×Operand),parts=ol.toArray:=⟨parts.toList,by simp⟩
 have hρ': ∀p∈ol,cv X.W0 μ σ.sz w (a.eval p.2) (evC s p.2):=fun p hpm=>by
  have h1:=hcn.ev p.2
  exact CE (o:=⟨dst,.buildSlice t len ol.toArray,ty,pos,af,gd⟩) hs (by simp [Op.operands];exact ⟨p.1,hpm⟩) h1
 simp only at hps
 subst hps
 have hz0:Ch (cc X.W0 μ σ.sz w) (madeCells zv.cells (len*n)).toList (BQ len zv.cells.toList):=by
  have:=Eu (W0:=X.W0) (μ:=μ) (sz:=σ.sz) (w:=w) (z:=zv.cells) (by omega) len
  rw [hzs] at this
  exact this
 obtain ⟨a',h1,h2⟩:=IO (W0:=X.W0) (μ:=μ) (sz:=σ.sz) (w:=w) (vs:=ol.map fun p=>(p.1,a.eval p.2)) (by simp) (fun i p q hp hq=>by
  simp only [List.getElem?_map,Option.map_eq_some_iff] at hp hq
  obtain ⟨x,hx,rfl⟩:=hp
  obtain ⟨y,hy,rfl⟩:=hq
  rw [hx] at hy
  cases hy
  refine ⟨rfl,hρ' x (List.mem_of_getElem? hx),fun c hc=>Eo ?_⟩
  have:=List.all_eq_true.1 hnl (x.1,evC s x.2) (List.mem_map.2 ⟨x,List.mem_of_getElem? hx,rfl⟩)
  exact List.all_eq_true.1 this c hc) hz0 hf
 have hr:=run_buildSlice (P:=P) w t e len ((ol.map fun p=>(p.1,a.eval p.2)).toArray) a' inf zv S.hu hi hz (by rw [hsize];omega) (by rw [hsize];have:=Nat.mul_pos hp hpos;omega) (by
  rw [hsize]
  simpa [madeCells] using h1)
 have hrun:(execOp a.eval ⟨dst,.buildSlice t len ol.toArray,ty,pos,af,gd⟩).run P w= .ok (.value (.slice (some ⟨w.heap.size,0,none⟩) len len)) (w.alloc (.cells a' e)):=by
  simp only [execOp]
  rw [show (ol.toArray.map fun x=>match x with|(i,x)=>(i,a.eval x))=(ol.map fun p=>(p.1,a.eval p.2)).toArray by simp]
  simp [hr]
 unfold Oper.wp
 rw [hrun]
 have hkp:Kp w (w.alloc (.cells a' e)):=(Below.refl _ _).alloc (Yh _) _
 have hnl': ∀c∈cs,nl c:=fun c hc=>Eo (List.all_eq_true.1 hnl2 c hc)
 have hna: ¬alive X.W0 w.heap.size:=fun ha=>by
  have h3:=hcn.w0 _ ha
  obtain ⟨c,e',fz,h4,_⟩:=ha
  rw [h4] at h3
  have:=(Array.getElem?_eq_some_iff.1 h3).1
  omega
 have hnw:=heap_alloc_new w (.cells a' e)
 obtain ⟨W',hW'⟩: ∃W',W'=frz X.W0 w.heap.size (.cells a' e (0,0)):=⟨_,rfl⟩
 have hE':Ext X.W0 W':=by rw [hW'];exact Hc _ hna
 have hat:W'.heap[w.heap.size]?=some (.cells a' e (0,0)):=by rw [hW'];exact JH _ _ _
 have hF:Fr W' (w.alloc (.cells a' e)):=fun g hg=>by
  by_cases hgk:g=w.heap.size
  ·subst hgk;rw [hat];exact hnw
  ·have h3:alive X.W0 g:=by
    rw [hW'] at hg
    rcases Eh hg with h4|h4
    ·exact absurd h4 hgk
    ·exact h4
   have h4:=hcn.w0 _ h3
   have h5:g<w.heap.size:=by
    obtain ⟨c,e',fz,h6,_⟩:=h3
    rw [h6] at h4
    exact (Array.getElem?_eq_some_iff.1 h4).1
   rw [hE' g h3,←h4]
   exact hkp.block g h5
 obtain ⟨hG,hcn'⟩:=XW hcn hkp hE' hF fun g hg=>by
  rw [hW'] at hg
  rcases Eh hg with h4|h4
  ·exact .inr (by omega)
  ·exact .inl h4
 refine hK _ _ ⟨W',hG,μ,?_⟩
 refine Cg hcn' (d:=dst) hd (v:= .slice (some ⟨w.heap.size,0,none⟩) len len) (av:= .one (lsG n f la)) ?_
 subst hlen
 unfold cv cv0 cc dd
 refine ⟨FZ hEl.len la,_,_,rfl,Yh _,fun hne=>⟨w.heap.size,0,rfl,JO fun i d hi=>?_⟩⟩
 have hbl:(AE f la)[i]?=some (toC d):=by
  show ((la.flatMap f).map toC)[i]?=_
  rw [List.getElem?_map,hi];rfl
 have hic:i<cs.length:=by rw [hE.len];exact (List.getElem?_eq_some_iff.1 hbl).1
 have hia:i<a'.size:=by have:=h2.1;simp at this;omega
 have h3:cc X.W0 μ σ.sz w a'[i] cs[i]:=h2.2 i a'[i] cs[i] (by simp [hia]) (Yi hic)
 have h4:=hE.get i _ _ (Yi hic) hbl _ _ _ _ _ h3
 refine ⟨a'[i],?_,h3.noL (hnl' _ (List.getElem_mem hic)),?_⟩
 ·rw [Nat.zero_add,cell_of_row W' _ _ a' e (0,0) hat]
  exact Array.getElem?_eq_getElem hia
 ·exact Ij.1 (h4.mono (Kl.of_kp hkp) (fun i hi=>⟨rfl,hi⟩) hE')
theorem F6 {α:Type} {f:α→List D} {la:List α} {d:Nat} {t e:TypeId} {parts:Array (Nat×Operand)} {agg:Bool} {n bytes:Nat} {zv:Value} [S:Sle P t e agg n bytes zv] {len:Nat} {ps:List (Nat×AV)} {cs:List C} (hlen:la.length=len:=by exact rfl) (hg:gOk ops σ.s gd:=by first|exact trivial|exact rfl) (hd:dB X.n (some d)=true:=by exact rfl) (hx:parts.toList.map (fun p=>(p.1,evC σ.s p.2))=ps:=by exact rfl) (hy:(ps.all fun p=>(AB p.2).all nlB)=true:=by exact rfl)
  (hc:DB (fun i=>some (i*n,n)) (BQ len zv.cells.toList) ps=some cs:=by exact rfl) (hf:(cs.all nlB&&Nat.ble (len*n) 16777216&&Nat.blt 0 len)=true:=by exact rfl) (hEl:Elm n f:=by infer_instance)
  (hE:EntL cs (AE f la):=by first|exact EntL.of_eq rfl|((repeat (first|exact EntL.nil' rfl|(refine EntL.cons' rfl ?_ ?_;focus (first|exact Aa.of_eq rfl|exact Aa.qs (by assumption)|(refine Aa.q rfl ?_;omega)|exact Aa.z0|exact Aa.z1|exact Aa.z2))));(first|done|fail)))
  (hl:Ag P X ops l (σ.app (some d) ⟨.one (lsG n f la),[],[],[]⟩) (fun es σ'=>K (⟨.one (lsG n f la),[],[],[]⟩::es) σ')):Ag P X ops (⟨some d,.buildSlice t len parts,ty,pos,af,gd⟩::l) σ K:=by
 simp only [Bool.and_eq_true] at hf
 exact .of (fun _ _ hl=>Run.step hg (MH hEl hlen (CX hd) hx hy hc hf.1.1 hf.1.2 hf.2 hE) (fun p hp=>by cases hp) B8 hl) hl
end
end Go.Proofs.YtkmalkcgkcpcmaaGreatDoor
