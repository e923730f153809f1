/-
  Several texts in one: Na, Za, Au, Zae.
-/
import Derived.Test.YtfineedhebhpaaaGreatDoorGk
import Derived.Test.YtfineedhebhpaaaGreatDoorEv
import Derived.Test.YtfineedhebhpaaaGreatDoorHz
namespace Go.Proofs.YtfineedhebhpaaaGreatDoor
open Nat renaming le_refl→Xv
open List renaming getElem?_eq_getElem→Xw
open Go.RowKit
set_option linter.unusedVariables false
set_option linter.unusedSimpArgs false
set_option maxRecDepth 20000
set_option maxHeartbeats 4000000
abbrev nmD (j:Nat) (x:Rat):List D:= [.q x j 0,.q x j 1,.q x j 2]
abbrev BI (j:Nat) (l:List Rat):C:=lsG 3 (nmD j) l
instance (j:Nat):Elm 3 (nmD j):=⟨fun _=>rfl,fun _=>rfl⟩
theorem Wx {W0 w:World} {x:Value} {r:Rat} {j k i:Nat} (h:j≤k) (hd:dd W0 w x (.q r j i)):dd W0 w x (.q r k i):=by
 unfold dd at hd⊢
 match i,hd with
 | 0,hd=>exact ⟨hd.1,Nat.zero_le _⟩
 | 1,hd=>exact ⟨hd.1,Nat.le_trans hd.2 h⟩
 | _+2,hd=>exact ⟨hd.1,Nat.le_trans hd.2 h⟩
theorem VL {W0 w:World} {b j k:Nat} (h:j≤k): ∀ {l:List Rat} {off:Nat},ddL W0 w b off (l.flatMap (nmD j))→ddL W0 w b off (l.flatMap (nmD k))
 | [],_,hd=>hd
 | x::l,off,hd=>by
   rw [List.flatMap_cons] at hd⊢
   show ddL W0 w b off (.q x k 0:: .q x k 1:: .q x k 2::l.flatMap (nmD k))
   replace hd:ddL W0 w b off (.q x j 0:: .q x j 1:: .q x j 2::l.flatMap (nmD j)):=hd
   simp only [ddL] at hd⊢
   obtain ⟨⟨v0,a0,a1,a2⟩,⟨v1,b0,b1,b2⟩,⟨v2,c0,c1,c2⟩,r⟩:=hd
   exact ⟨⟨v0,a0,a1,Wx h a2⟩,⟨v1,b0,b1,Wx h b2⟩,⟨v2,c0,c1,Wx h c2⟩,VL h r⟩
theorem Aa.ratsLe {j k:Nat} {l:List Rat} (h:j≤k):Aa (BI j l) (BI k l):=fun W0 μ sz w x hx=>by
 unfold cc dd at hx⊢
 obtain ⟨h0,ao,cap,h1,h2,h3⟩:=hx
 refine ⟨Fc (f:=nmD k) (es:=3) (fun _=>rfl) l,ao,cap,h1,h2,fun hne=>?_⟩
 have hne':l.flatMap (nmD j)≠ []:=fun h0=>by
  cases l with
  | nil=>exact hne rfl
  | cons a l=>cases h0
 obtain ⟨b,off,h4,h5⟩:=h3 hne'
 exact ⟨b,off,h4,VL h h5⟩
theorem Aa.ratsNil {j:Nat} :Aa (.v (.slice none 0 0)) (BI j []):=fun W0 μ sz w x hx=>by
 have hx:x= .slice none 0 0:=hx
 unfold cc dd
 exact ⟨rfl,none,0,hx,Xv _,fun h=>absurd rfl h⟩
theorem Vf {k:Nat} {x:Rat} (h:Sz k x.den):(toL (Gw x)).length≤k:=by
 unfold Gw
 split
 ·simp [toL]
 ·exact h
theorem Aa.qs {x:Rat} {j k i:Nat} (h:RSz k x):Aa (.q x j i) (.q x k i):=fun _ _ _ _ _ hv=>by
 match i with
 | 0=>exact ⟨hv.1,Nat.zero_le _⟩
 | 1=>exact ⟨hv.1,h.1⟩
 | _+2=>exact ⟨hv.1,Vf h.2⟩
theorem Aa.qe {x y:Rat} {j k i:Nat} (e:x=y) (h:RSz k y):Aa (.q x j i) (.q y k i):=e▸Aa.qs (e▸h)
theorem Gg {k:IntKind} {a b:Int} {c:Bool} (h:decide (a≠b)=c):FA .neq k a b=some (.bool c):=by
 rw [←h]
 show some (Value.bool (a !=b))=_
 congr 2
 by_cases hab:a=b<;>simp [hab]
theorem NV {j k:Nat} {l m:List Rat} (h1:l.length≤1000000000) (h2:m.length≤1000000000):
  Ctr Tryz.prog Amb 21 [.one (BI j l),.one (BI k m)] (.one (.v (.bool (decide (l=m))))):=by
 by_cases hlm:l.length=m.length
 ·have b0:=Gg (k:= .i64) (a:=(l.length:Int)) (b:=(m.length:Int)) (decide_eq_false (show ¬(l.length:Int)≠(m.length:Int) by omega))
  refine AK Tryz.func21 rfl rfl rfl rfl rfl rfl ?_
  intro W0 base D μ0 hA hD
  repeat (first
   | refine Aj ?_|refine Ae ?_|refine Ac rfl ?_|refine Ad rfl ?_
   | ((first|refine An (by kernel_rfl) ?_|refine Az (by kernel_rfl) (by kernel_rfl) (by kernel_rfl) ?_)
      repeat (first
       | refine Aq (hl:=?_)
       | refine Ai (hl:=?_)
       | refine AA (hl:=?_)
       | refine AJ (hl:=?_)
       | refine Ak (hl:=?_)
       | refine Cy (hl:=?_)
       | refine AO (hl:=?_)
       | refine AN (hl:=?_)
       | refine AP (hl:=?_)
       | refine AB (hl:=?_)
       | refine Av (hl:=?_))
      apply Ab.nil;try refine And.intro (by kernel_rfl) ?_)
   | refine Ag ?_|refine Ah ?_)
  refine Cs (fun n σ=> ∃i:Nat,n+i=l.length∧l.take i=m.take i∧Wk ⟨W0,base,D,27,[],μ0⟩ σ [(0,.one (BI j l)),(1,.one (BI k m)),(5,.one (.v (.int .i64 (i:Nat))))] []) (n:=l.length) ⟨0,by omega,by simp,?_⟩ ?_
  ·refine DP ?_ ?_ rfl
   ·repeat (first|exact Ao|(refine List.forall_mem_cons.2 ⟨?_,?_⟩;focus (first|exact Ent.of_eq rfl|(refine Ent.one' rfl ?_;(first|exact Aa.ratsLe (by omega)|exact Aa.ratsNil|exact Aa.glNil|(refine Aa.int ?_;omega)|(refine Aa.glLen ?_;first|omega|simp)|exact Aa.of_eq rfl|(refine Aa.q rfl ?_;omega)|exact Z0 _|exact Z2 _|exact Aa.z0 (k:=0)|exact Aa.z1 (k:=0)|exact Aa.z2 (k:=0)|exact Aa.z0|exact Aa.z1|exact Aa.z2))|(refine Ent.agg' rfl ?_;(repeat (first|exact EntL.nil' rfl|(refine EntL.cons' rfl ?_ ?_;focus (first|exact Aa.ratsLe (by omega)|exact Aa.ratsNil|exact Aa.glNil|(refine Aa.int ?_;omega)|(refine Aa.glLen ?_;first|omega|simp)|exact Aa.of_eq rfl|(refine Aa.q rfl ?_;omega)|exact Z0 _|exact Z2 _|exact Aa.z0 (k:=0)|exact Aa.z1 (k:=0)|exact Aa.z2 (k:=0)|exact Aa.z0|exact Aa.z1|exact Aa.z2))));done))))
   ·repeat (first|exact Ao|(refine List.forall_mem_cons.2 ⟨?_,?_⟩;focus (first|exact BH inferInstance|(refine D5 rfl ?_ rfl;focus ((repeat (first|exact EntL.nil' rfl|(refine EntL.cons' rfl ?_ ?_;focus (first|exact Aa.ratsLe (by omega)|exact Aa.ratsNil|exact Aa.glNil|(refine Aa.int ?_;omega)|(refine Aa.glLen ?_;first|omega|simp)|exact Aa.of_eq rfl|(refine Aa.q rfl ?_;omega)|exact Z0 _|exact Z2 _|exact Aa.z0 (k:=0)|exact Aa.z1 (k:=0)|exact Aa.z2 (k:=0)|exact Aa.z0|exact Aa.z1|exact Aa.z2))));done)))))
  intro n σ hI
  obtain ⟨i,hn,ht,hw⟩:=hI
  refine C7 hw ?_
  clear hw
  by_cases hi:i<l.length
  ·have bi:=BL (k:= .i64) (decide_eq_true (show (i:Int)<(l.length:Int) by omega))
   obtain ⟨x,hx⟩: ∃x,l[((i:Nat):Int).toNat]?=some x:=⟨_,by rw [Int.toNat_natCast];exact Xw hi⟩
   obtain ⟨y,hy⟩: ∃y,m[((i:Nat):Int).toNat]?=some y:=⟨_,by rw [Int.toNat_natCast];exact Xw (show i<m.length by omega)⟩
   have hin:=BD (k:= .i64) (show (IntKind.i64).wrap ((i:Int)+1)=((i+1:Nat):Int) from IntWalk.i64_in _ (by omega))
   have S1:=Ou (j:=j) (k:=k) (x:=x) (y:=y)
   have hx':=hx
   have hy':=hy
   rw [Int.toNat_natCast] at hx' hy'
   by_cases hxy:x=y
   ·rw [decide_eq_true hxy] at S1
    repeat (first
     | refine Aj ?_|refine Ae ?_|refine Ac rfl ?_|refine Ad rfl ?_
     | ((first|refine An (by kernel_rfl) ?_|refine Az (by kernel_rfl) (by kernel_rfl) (by kernel_rfl) ?_)
        repeat (first
         | refine Aq (hl:=?_)
         | refine Ai (hl:=?_)
         | refine AA (hl:=?_)
         | refine AJ (hl:=?_)
         | refine Ak (hl:=?_)
         | refine Cy (hl:=?_)
         | refine AO (hl:=?_)
         | refine AN (hl:=?_)
         | refine AP (hl:=?_)
         | refine AB (hl:=?_)
         | refine Av (hl:=?_)
         | refine Cz hx (by omega) (hl:=?_)
         | refine Cz hy (by omega) (hl:=?_)
         | refine Ap hA (hc:=S1) (hl:=?_))
        apply Ab.nil;try refine And.intro (by kernel_rfl) ?_)
     | refine Ag ?_|refine Ah ?_)
    refine ⟨n-1,by omega,i+1,by omega,?_,?_⟩
    ·rw [List.take_add_one,List.take_add_one,ht,hx',hy',hxy]
    ·refine DP ?_ ?_ rfl
     ·repeat (first|exact Ao|(refine List.forall_mem_cons.2 ⟨?_,?_⟩;focus (first|exact Ent.of_eq rfl|(refine Ent.one' rfl ?_;(first|exact Aa.ratsLe (by omega)|exact Aa.ratsNil|exact Aa.glNil|(refine Aa.int ?_;omega)|(refine Aa.glLen ?_;first|omega|simp)|exact Aa.of_eq rfl|(refine Aa.q rfl ?_;omega)|exact Z0 _|exact Z2 _|exact Aa.z0 (k:=0)|exact Aa.z1 (k:=0)|exact Aa.z2 (k:=0)|exact Aa.z0|exact Aa.z1|exact Aa.z2))|(refine Ent.agg' rfl ?_;(repeat (first|exact EntL.nil' rfl|(refine EntL.cons' rfl ?_ ?_;focus (first|exact Aa.ratsLe (by omega)|exact Aa.ratsNil|exact Aa.glNil|(refine Aa.int ?_;omega)|(refine Aa.glLen ?_;first|omega|simp)|exact Aa.of_eq rfl|(refine Aa.q rfl ?_;omega)|exact Z0 _|exact Z2 _|exact Aa.z0 (k:=0)|exact Aa.z1 (k:=0)|exact Aa.z2 (k:=0)|exact Aa.z0|exact Aa.z1|exact Aa.z2))));done))))
     ·repeat (first|exact Ao|(refine List.forall_mem_cons.2 ⟨?_,?_⟩;focus (first|exact BH inferInstance|(refine D5 rfl ?_ rfl;focus ((repeat (first|exact EntL.nil' rfl|(refine EntL.cons' rfl ?_ ?_;focus (first|exact Aa.ratsLe (by omega)|exact Aa.ratsNil|exact Aa.glNil|(refine Aa.int ?_;omega)|(refine Aa.glLen ?_;first|omega|simp)|exact Aa.of_eq rfl|(refine Aa.q rfl ?_;omega)|exact Z0 _|exact Z2 _|exact Aa.z0 (k:=0)|exact Aa.z1 (k:=0)|exact Aa.z2 (k:=0)|exact Aa.z0|exact Aa.z1|exact Aa.z2))));done)))))
   ·rw [decide_eq_false hxy] at S1
    have hne:l≠m:=fun e=>hxy (by rw [e,hy'] at hx';exact (Option.some.inj hx').symm)
    rw [decide_eq_false hne]
    repeat (first
     | refine Aj ?_|refine Ae ?_|refine Ac rfl ?_|refine Ad rfl ?_
     | ((first|refine An (by kernel_rfl) ?_|refine Az (by kernel_rfl) (by kernel_rfl) (by kernel_rfl) ?_)
        repeat (first
         | refine Aq (hl:=?_)
         | refine Ai (hl:=?_)
         | refine AA (hl:=?_)
         | refine AJ (hl:=?_)
         | refine Ak (hl:=?_)
         | refine Cy (hl:=?_)
         | refine AO (hl:=?_)
         | refine AN (hl:=?_)
         | refine AP (hl:=?_)
         | refine AB (hl:=?_)
         | refine Av (hl:=?_)
         | refine Cz hx (by omega) (hl:=?_)
         | refine Cz hy (by omega) (hl:=?_)
         | refine Ap hA (hc:=S1) (hl:=?_))
        apply Ab.nil;try refine And.intro (by kernel_rfl) ?_)
     | refine Ag ?_|refine Ah ?_)
    refine AU (And.intro (Or.inr rfl) ?_)
    exact Cw
  ·have bi:=BL (k:= .i64) (decide_eq_false (show ¬(i:Int)<(l.length:Int) by omega))
   have he:l=m:=by
    rw [List.take_of_length_le (by omega),List.take_of_length_le (by omega)] at ht
    exact ht
   rw [decide_eq_true he]
   repeat (first
    | refine Aj ?_|refine Ae ?_|refine Ac rfl ?_|refine Ad rfl ?_
    | ((first|refine An (by kernel_rfl) ?_|refine Az (by kernel_rfl) (by kernel_rfl) (by kernel_rfl) ?_)
       repeat (first
        | refine Aq (hl:=?_)
        | refine Ai (hl:=?_)
        | refine AA (hl:=?_)
        | refine AJ (hl:=?_)
        | refine Ak (hl:=?_)
        | refine Cy (hl:=?_)
        | refine AO (hl:=?_)
        | refine AN (hl:=?_)
        | refine AP (hl:=?_)
        | refine AB (hl:=?_)
        | refine Av (hl:=?_))
       apply Ab.nil;try refine And.intro (by kernel_rfl) ?_)
    | refine Ag ?_|refine Ah ?_)
   refine AU (And.intro (Or.inr rfl) ?_)
   exact Cw
 ·have b0:=Gg (k:= .i64) (a:=(l.length:Int)) (b:=(m.length:Int)) (decide_eq_true (show (l.length:Int)≠(m.length:Int) by omega))
  rw [decide_eq_false (show ¬l=m from fun e=>hlm (by rw [e]))]
  refine AK Tryz.func21 rfl rfl rfl rfl rfl rfl ?_
  intro W0 base D μ0 hA hD
  repeat (first
   | refine Aj ?_|refine Ae ?_|refine Ac rfl ?_|refine Ad rfl ?_
   | ((first|refine An (by kernel_rfl) ?_|refine Az (by kernel_rfl) (by kernel_rfl) (by kernel_rfl) ?_)
      repeat (first
       | refine Aq (hl:=?_)
       | refine Ai (hl:=?_)
       | refine AA (hl:=?_)
       | refine AJ (hl:=?_)
       | refine Ak (hl:=?_)
       | refine Cy (hl:=?_)
       | refine AO (hl:=?_)
       | refine AN (hl:=?_)
       | refine AP (hl:=?_)
       | refine AB (hl:=?_)
       | refine Av (hl:=?_))
      apply Ab.nil;try refine And.intro (by kernel_rfl) ?_)
   | refine Ag ?_|refine Ah ?_)
  refine AU (And.intro (Or.inr rfl) ?_)
  exact Cw
section
variable {P:Program} {X:Ctx} {σ:St} {Q:Exit→St→Prop} {tl:List Oper}
end
def Qx (σ:St) (k:Nat) (ks:List Nat) (p:Nat×List C):Prop:=(σ.sz p.1=p.2.length∧ ∀(i:Nat) c,p.2[i]?=some c→FzC σ k (σ.m p.1 i) c∧nl c)∧p.2.all (inC ks)=true
theorem Qx.of {σ:St} {k:Nat} {ks:List Nat} {p:Nat×List C} (h:D0 σ ks p):Qx σ k ks p:=⟨⟨h.1.1,fun i c hc=>⟨.ent (h.1.2 i c hc).1,(h.1.2 i c hc).2⟩⟩,h.2⟩
theorem Qx.gl {α:Type} {n:Nat} {f:α→List D} (hf:Elm n f) {σ:St} {k kb len:Nat} {ks:List Nat} {l:List α} (hz:σ.sz k=(Al f l).length:=by exact rfl) (hm:JT (σ.m k) (Al f l):=by first|exact DT|exact Do) (hz2:σ.sz kb=1:=by exact rfl) (hm2:σ.m kb 0= .gl k len n:=by exact rfl) (hlen:len=l.length:=by first|rfl|omega):Qx σ k ks (kb,[lsG n f l]):=by
 subst hlen
 have h:=OZ (f:=f) (l:=l) hf hz hm
 refine ⟨⟨hz2,fun i c hc=>?_⟩,by simp [inC]⟩
 match i,hc with
 | 0,hc=>
   cases hc
   refine ⟨?_,trivial⟩
   show FzC σ k (σ.m kb 0) _
   rw [hm2]
   cases h with
   | one h=>exact h
   | ent h=>exact .ent fun W0 μ sz w x hx=>h W0 μ sz w x hx
section
variable {P:Program} {X:Ctx} {ops l:List Oper} {σ:St} {K:List Eff→St→Prop} {s:Nat→AV} {z:Nat→Nat}
variable {dst:Option Tmp} {ty:TypeId} {pos:String} {af:Array Edge} {gd:Option (Nat×Bool)}
theorem Oa {P:Program} (w:World) (t e:TypeId) (ie:TypeInfo) (hu:P.underlying t=some (.slice e)) (hie:P.info? e=some ie):
  (Instr.buildSlice t 0 #[]).run P w= .ok (.slice (some ⟨w.heap.size,0,none⟩) 0 0) (w.alloc (.cells #[] e)):=by
 simp [Instr.buildSlice,run_underlying hu,sizeOf,typeInfo,hie,Instr.fill,newRow]
 congr 2
 exact Array.ext (by simp) (fun i h1 h2=>by simp at h2)
theorem N5 {t e:TypeId} {agg:Bool} {n bytes:Nat} {zv:Value} [S:Sle P t e agg n bytes zv] {id:Nat} (hd: ∀t,dst=some t→t<X.n):
  Sim P X ⟨dst,.buildSlice t 0 #[],ty,pos,af,gd⟩ s z ⟨.one (.gl id 0 n),[],[],[]⟩:=by
 refine Sim.of0 fun W=>?_
 replace hd: ∀t,dst=some t→t<(X.at W).n:=hd
 generalize X.at W=X at hd⊢
 intro σ hs hsz _ hal a w hcn K Q hK
 obtain ⟨μ,hcn⟩:=hcn
 obtain ⟨inf,hi,hz,hsize,hby⟩:=S.info
 have hrun:(execOp a.eval ⟨dst,.buildSlice t 0 #[],ty,pos,af,gd⟩).run P w= .ok (.value (.slice (some ⟨w.heap.size,0,none⟩) 0 0)) (w.alloc (.cells #[] e)):=by
  simp [execOp,Oa w t e inf S.hu hi]
 unfold Oper.wp
 rw [hrun]
 have hkp:Kp w (w.alloc (.cells #[] e)):=(Below.refl _ _).alloc (Xv _) _
 refine hK _ _ ⟨μ,?_⟩
 refine BW (VN hcn hkp) (d:=dst) hd (v:= .slice (some ⟨w.heap.size,0,none⟩) 0 0) (av:= .one (.gl id 0 n)) ⟨_,0,rfl,Xv _,fun _=>rfl,fun h=>absurd rfl h⟩
theorem L2 {d:Nat} {t e:TypeId} {agg:Bool} {n bytes:Nat} {zv:Value} [S:Sle P t e agg n bytes zv] (hg:gOk ops σ.s gd:=by first|exact trivial|exact rfl) (hd:dB X.n (some d)=true:=by exact rfl)
  (hl:Ab P X ops l (σ.app (some d) ⟨.one (.gl d 0 n),[],[],[]⟩) (fun es σ'=>K (⟨.one (.gl d 0 n),[],[],[]⟩::es) σ')):Ab P X ops (⟨some d,.buildSlice t 0 #[],ty,pos,af,gd⟩::l) σ K:=
 .of (fun _ _ hl=>Run.step hg (N5 (CH hd)) (fun p hp=>by cases hp) B7 hl) hl
end
section
variable {P:Program} {X:Ctx} {ops l:List Oper} {σ:St} {K:List Eff→St→Prop} {s:Nat→AV} {z:Nat→Nat}
variable {dst:Option Tmp} {ty:TypeId} {pos:String} {af:Array Edge} {gd:Option (Nat×Bool)}
theorem KY (d:Nat) (t e:TypeId) (a:Option Addr) (l c:Nat) (h:P.underlying t=some (.slice e)) (w:World):(Op.equalIn (d+1) t (.slice a l c) (.slice none 0 0)).run P w= .ok a.isNone w:=by
 cases a<;>simp [Op.equalIn,run_underlying h w]
theorem N9 (t e:TypeId) (a:Option Addr) (l c:Nat) (h:P.underlying t=some (.slice e)) (w:World):(Op.equal t (.slice a l c) (.slice none 0 0)).run P w= .ok a.isNone w:=KY 9999 t e a l c h w
theorem Lp {t e u:TypeId} {x y:Operand} {agg:Bool} {n bytes:Nat} {zv:Value} [S:Sle P t e agg n bytes zv] {α:Type} {f:α→List D} {la:List α} (hx:evC s x= .one (lsG n f la)) (hne:la.flatMap f≠ []) (hy:evC s y= .one (.v (.slice none 0 0))):
  CP P ⟨dst,.binOp .eql t x y u,ty,pos,af,gd⟩ s (.one (.v (.bool false))):=fun W0 μ sz w ρ hρ=>by
 have h:=hρ x (by simp [Op.operands])
 rw [hx] at h
 have h':=hρ y (by simp [Op.operands])
 rw [hy] at h'
 replace h':ρ y= .slice none 0 0:=h'
 unfold cv cv0 cc dd at h
 obtain ⟨_,ao,cap,hv,_,h3⟩:=h
 obtain ⟨b,off,rfl,_⟩:=h3 hne
 have h3:(Op.equal t (.slice (some ⟨b,off,none⟩) la.length cap) (.slice none 0 0)).run P w= .ok false w:=N9 t e _ _ _ S.hu w
 refine ⟨.bool false,?_,rfl⟩
 have h4:(binOp .eql t (.slice (some ⟨b,off,none⟩) la.length cap) (.slice none 0 0)).run P w= .ok (.bool false) w:=by
  show (do pure (Value.bool (←Op.equal t _ (.slice none 0 0))):Sem Value).run P w=_
  rw [Sem.run_bind,h3]
  rfl
 have h5:(eqGuard .eql t x y (.slice (some ⟨b,off,none⟩) la.length cap) (.slice none 0 0)).run P w= .ok () w:=rfl
 show (do let v←(do eqGuard .eql t x y (ρ x) (ρ y);binOp .eql t (ρ x) (ρ y):Sem Value);pure (Next.value v):Sem Next).run P w=_
 rw [hv,h',Sem.run_bind,Sem.run_bind,h5,Result.andThen_ok,h4]
 rfl
theorem Up {t e u:TypeId} {x y:Operand} {agg:Bool} {n bytes:Nat} {zv:Value} [S:Sle P t e agg n bytes zv] {α:Type} {f:α→List D} {la:List α} (hne:la.flatMap f≠ []) (hg:gOk ops σ.s gd:=by first|exact trivial|exact rfl) (hd:dB X.n dst=true:=by exact rfl) (hx:evC σ.s x= .one (lsG n f la):=by exact rfl) (hy:evC σ.s y= .one (.v (.slice none 0 0)):=by exact rfl)
  (hl:Ab P X ops l (σ.app dst ⟨.one (.v (.bool false)),[],[],[]⟩) (fun es σ'=>K (⟨.one (.v (.bool false)),[],[],[]⟩::es) σ')):Ab P X ops (⟨dst,.binOp .eql t x y u,ty,pos,af,gd⟩::l) σ K:=
 BF (o:=⟨dst,.binOp .eql t x y u,ty,pos,af,gd⟩) hg hd (Lp hx hne hy) hl
end
section
variable {P:Program} {X:Ctx} {ops l:List Oper} {σ:St} {K:List Eff→St→Prop}
variable {dst:Option Tmp} {ty:TypeId} {pos:String} {af:Array Edge} {gd:Option (Nat×Bool)}
theorem Uj {A:World→Prop} {c:Call} {f:FuncId} {us:List AV} {R:AV} (hcl:A9 σ.s c.callee=some (f,[]):=by exact rfl) (has:c.args.toList.map (evC σ.s)=us:=by exact rfl) (hc:Ctr P A f us R:=by assumption) (hA:A X.W0:=by assumption) (hM:MonoA A:=by infer_instance) (hF:Fun P f:=by infer_instance) (hg:gOk ops σ.s gd:=by first|exact trivial|exact rfl) (hd:dB X.n dst=true:=by exact rfl)
  (hl:Ab P X ops l (σ.app dst ⟨R,[],[],[]⟩) (fun es σ'=>K (⟨R,[],[],[]⟩::es) σ')):Ab P X ops (⟨dst,.call c,ty,pos,af,gd⟩::l) σ K:=
 Ap hA hc hg hd hcl (Ents.of_eq has) hl
theorem NM {A:World→Prop} {c:Call} {f:FuncId} {us caps:List AV} {R:AV} {k1:Nat} {c1:List C} (hcl:A9 σ.s c.callee=some (f,caps):=by exact rfl) (has:c.args.toList.map (evC σ.s)++caps=us:=by exact rfl) (hc:B9 P A f us [(k1,c1,c1)] R:=by assumption) (hA:A X.W0:=by assumption) (hM:MonoA A:=by infer_instance) (hF:Fun P f:=by infer_instance) (hg:gOk ops σ.s gd:=by first|exact trivial|exact rfl) (hd:dB X.n dst=true:=by exact rfl)
  (h1:rdL (σ.m k1) 0 c1.length=c1:=by exact rfl) (hb:((([(k1,c1)]:List (Nat×List C)).all (fun p=>Ed σ.sz p.2.length p)&&([]:List (Nat×List C×List C)).all (fun p=>Ed σ.sz p.2.2.length (p.1,p.2.1))&&((([(k1,c1)]:List (Nat×List C)).map (·.1)++([]:List (Nat×List C×List C)).map (·.1)).all fun k=>(c.args.toList.map (evC σ.s)++caps).any (EB k))&&ndB (([(k1,c1)]:List (Nat×List C)).map (·.1))))=true:=by exact rfl)
  (hl:Ab P X ops l (σ.app dst ⟨R,[(k1,0,c1)],[],[]⟩) (fun es σ'=>K (⟨R,[(k1,0,c1)],[],[]⟩::es) σ')):Ab P X ops (⟨dst,.call c,ty,pos,af,gd⟩::l) σ K:=by
 exact DK hA [(k1,c1)] hc hg hd hcl (Ents.of_eq has) (List.forall_mem_cons.2 ⟨h1,Ao⟩) hb hl
theorem NL {A:World→Prop} {c:Call} {f:FuncId} {us caps:List AV} {R:AV} {k1 k2:Nat} {c1 c2:List C} (hcl:A9 σ.s c.callee=some (f,caps):=by exact rfl) (has:c.args.toList.map (evC σ.s)++caps=us:=by exact rfl) (hc:B9 P A f us [(k1,c1,c1),(k2,c2,c2)] R:=by assumption) (hA:A X.W0:=by assumption) (hM:MonoA A:=by infer_instance) (hF:Fun P f:=by infer_instance) (hg:gOk ops σ.s gd:=by first|exact trivial|exact rfl) (hd:dB X.n dst=true:=by exact rfl)
  (h1:rdL (σ.m k1) 0 c1.length=c1:=by exact rfl) (h2:rdL (σ.m k2) 0 c2.length=c2:=by exact rfl) (hb:((([(k1,c1),(k2,c2)]:List (Nat×List C)).all (fun p=>Ed σ.sz p.2.length p)&&([]:List (Nat×List C×List C)).all (fun p=>Ed σ.sz p.2.2.length (p.1,p.2.1))&&((([(k1,c1),(k2,c2)]:List (Nat×List C)).map (·.1)++([]:List (Nat×List C×List C)).map (·.1)).all fun k=>(c.args.toList.map (evC σ.s)++caps).any (EB k))&&ndB (([(k1,c1),(k2,c2)]:List (Nat×List C)).map (·.1))))=true:=by exact rfl)
  (hl:Ab P X ops l (σ.app dst ⟨R,[(k1,0,c1),(k2,0,c2)],[],[]⟩) (fun es σ'=>K (⟨R,[(k1,0,c1),(k2,0,c2)],[],[]⟩::es) σ')):Ab P X ops (⟨dst,.call c,ty,pos,af,gd⟩::l) σ K:=
 DK hA [(k1,c1),(k2,c2)] hc hg hd hcl (Ents.of_eq has) (List.forall_mem_cons.2 ⟨h1,List.forall_mem_cons.2 ⟨h2,Ao⟩⟩) hb hl
theorem NK {A:World→Prop} {c:Call} {f:FuncId} {us caps:List AV} {R:AV} {k1 k2 k3:Nat} {c1 c2 c3:List C} (hcl:A9 σ.s c.callee=some (f,caps):=by exact rfl) (has:c.args.toList.map (evC σ.s)++caps=us:=by exact rfl) (hc:B9 P A f us [(k1,c1,c1),(k2,c2,c2),(k3,c3,c3)] R:=by assumption) (hA:A X.W0:=by assumption) (hM:MonoA A:=by infer_instance) (hF:Fun P f:=by infer_instance) (hg:gOk ops σ.s gd:=by first|exact trivial|exact rfl) (hd:dB X.n dst=true:=by exact rfl)
  (h1:rdL (σ.m k1) 0 c1.length=c1:=by exact rfl) (h2:rdL (σ.m k2) 0 c2.length=c2:=by exact rfl) (h3:rdL (σ.m k3) 0 c3.length=c3:=by exact rfl) (hb:((([(k1,c1),(k2,c2),(k3,c3)]:List (Nat×List C)).all (fun p=>Ed σ.sz p.2.length p)&&([]:List (Nat×List C×List C)).all (fun p=>Ed σ.sz p.2.2.length (p.1,p.2.1))&&((([(k1,c1),(k2,c2),(k3,c3)]:List (Nat×List C)).map (·.1)++([]:List (Nat×List C×List C)).map (·.1)).all fun k=>(c.args.toList.map (evC σ.s)++caps).any (EB k))&&ndB (([(k1,c1),(k2,c2),(k3,c3)]:List (Nat×List C)).map (·.1))))=true:=by exact rfl)
  (hl:Ab P X ops l (σ.app dst ⟨R,[(k1,0,c1),(k2,0,c2),(k3,0,c3)],[],[]⟩) (fun es σ'=>K (⟨R,[(k1,0,c1),(k2,0,c2),(k3,0,c3)],[],[]⟩::es) σ')):Ab P X ops (⟨dst,.call c,ty,pos,af,gd⟩::l) σ K:=
 DK hA [(k1,c1),(k2,c2),(k3,c3)] hc hg hd hcl (Ents.of_eq has) (List.forall_mem_cons.2 ⟨h1,List.forall_mem_cons.2 ⟨h2,List.forall_mem_cons.2 ⟨h3,Ao⟩⟩⟩) hb hl
theorem Qu {A:World→Prop} {c:Call} {f:FuncId} {us caps:List AV} {k:Nat} {b d:List C} {R:AV} (hcl:A9 σ.s c.callee=some (f,caps):=by exact rfl) (has:c.args.toList.map (evC σ.s)++caps=us:=by exact rfl) (hc:B9 P A f us [(k,b,d)] R:=by assumption) (hA:A X.W0:=by assumption) (hM:MonoA A:=by infer_instance) (hF:Fun P f:=by infer_instance) (hg:gOk ops σ.s gd:=by first|exact trivial|exact rfl) (hd:dB X.n dst=true:=by exact rfl) (hrw:rdL (σ.m k) 0 b.length=b:=by exact rfl)
  (hb:((([]:List (Nat×List C)).all (fun p=>Ed σ.sz p.2.length p)&& [(k,b,d)].all (fun p=>Ed σ.sz p.2.2.length (p.1,p.2.1))&&((([]:List (Nat×List C)).map (·.1)++ [(k,b,d)].map (·.1)).all fun k=>(c.args.toList.map (evC σ.s)++caps).any (Kf k)))=true):=by exact rfl)
  (hl:Ab P X ops l (σ.app dst ⟨R,[(k,0,b)],[(k,0,d)],[]⟩) (fun es σ'=>K (⟨R,[(k,0,b)],[(k,0,d)],[]⟩::es) σ')):Ab P X ops (⟨dst,.call c,ty,pos,af,gd⟩::l) σ K:=
 Fi hA hc hg hd hcl (Ents.of_eq has) hrw hb hl
theorem Qt {A:World→Prop} {c:Call} {f:FuncId} {us:List AV} {cs:List C} {d:Nat} (hcl:A9 σ.s c.callee=some (f,[]):=by exact rfl) (has:c.args.toList.map (evC σ.s)=us:=by exact rfl) (hc:Um P A f us cs:=by assumption) (hA:A X.W0:=by assumption) (hM:MonoA A:=by infer_instance) (hF:Fun P f:=by infer_instance) (hg:gOk ops σ.s gd:=by first|exact trivial|exact rfl) (hd:dB X.n (some d)=true:=by exact rfl) (hf:(Nat.beq (σ.sz d) 0&&!cs.isEmpty)=true:=by exact rfl)
  (hl:Ab P X ops l (σ.app (some d) ⟨.one (.ptr d 0),[],[],[(d,cs)]⟩) (fun es σ'=>K (⟨.one (.ptr d 0),[],[],[(d,cs)]⟩::es) σ')):Ab P X ops (⟨some d,.call c,ty,pos,af,gd⟩::l) σ K:=
 Uq hA hc hg hd hf hcl (Ents.of_eq has) hl
theorem Qs {A:World→Prop} {c:Call} {f:FuncId} {us:List AV} {k len n:Nat} {b d:List C} {R:AV} (hcl:A9 σ.s c.callee=some (f,[]):=by exact rfl) (has:c.args.toList.map (evC σ.s)=us:=by exact rfl) (hc:B9 P A f us [(k,b,d)] R:=by assumption) (hA:A X.W0:=by assumption) (hM:MonoA A:=by infer_instance) (hF:Fun P f:=by infer_instance) (hg:gOk ops σ.s gd:=by first|exact trivial|exact rfl) (hd:dB X.n dst=true:=by exact rfl)
  (hm1:c.args.toList.map (evC σ.s)= .one (.gl k len n)::us.tail:=by exact rfl) (hz:σ.sz k=b.length:=by exact rfl) (hm:JT (σ.m k) b:=by first|exact DT|exact Do) (hlen:0<len:=by omega) (hbd:b.length=d.length:=by assumption) (hb0:0<b.length:=by assumption)
  (hl:Ab P X ops l (σ.app dst ⟨R,[(k,0,b)],[(k,0,d)],[]⟩) (fun es σ'=>K (⟨R,[(k,0,b)],[(k,0,d)],[]⟩::es) σ')):Ab P X ops (⟨dst,.call c,ty,pos,af,gd⟩::l) σ K:=
 Ps hA hc ⟨hlen,hbd,hb0⟩ hg hd hcl (Ents.of_eq has) hm1 hz hm hl
theorem NJ {A:World→Prop} {c:Call} {f:FuncId} {us caps:List AV} {k:Nat} {cs:List C} {R:AV} (hcl:A9 σ.s c.callee=some (f,caps):=by exact rfl) (has:c.args.toList.map (evC σ.s)++caps=us:=by exact rfl) (hc:Dd P A f us [] [(k,cs)] R:=by assumption) (hA:A X.W0:=by assumption) (hM:MonoA A:=by infer_instance) (hF:Fun P f:=by infer_instance) (hg:gOk ops σ.s gd:=by first|exact trivial|exact rfl) (hd:dB X.n dst=true:=by exact rfl)
  (hne:0<cs.length:=by assumption) (hb:Nat.beq (σ.sz k) 0=true:=by exact rfl)
  (hl:Ab P X ops l (σ.app dst ⟨R,[],[],[(k,cs)]⟩) (fun es σ'=>K (⟨R,[],[],[(k,cs)]⟩::es) σ')):Ab P X ops (⟨dst,.call c,ty,pos,af,gd⟩::l) σ K:=
 EZ hA [] hc hne hg hd hcl (Ents.of_eq has) Ao (by simp [ndB,hb]) hl
theorem VT {α:Type} {f:α→List D} {la:List α} {b:α} {t e:TypeId} {x y:Operand} {agg:Bool} {n bytes:Nat} {zv:Value} [S:Sle P t e agg n bytes zv] {ik:IntKind} {i:Int} (hx:evC σ.s x= .one (lsG n f la):=by exact rfl) (hy:evC σ.s y= .one (.v (.int ik i)):=by exact rfl) (ha:la[i.toNat]?=some b:=by assumption) (h0:0≤i:=by omega) (hg:gOk ops σ.s gd:=by first|exact trivial|exact rfl) (hd:dB X.n dst=true:=by exact rfl) (hf: ∀a,(f a).length=n:=by intro _;rfl)
  (hl:Ab P X ops l (σ.app dst ⟨.one (.fp (f b)),[],[],[]⟩) (fun es σ'=>K (⟨.one (.fp (f b)),[],[],[]⟩::es) σ')):Ab P X ops (⟨dst,.indexAddr t x y,ty,pos,af,gd⟩::l) σ K:=Cz ha h0 hg hd hx hy hf hl
theorem Ui {t e:TypeId} {x y:Operand} {agg:Bool} {n bytes:Nat} {zv:Value} [S:Sle P t e agg n bytes zv] {k len:Nat} {ik:IntKind} {i:Int} (hx:evC σ.s x= .one (.gl k len n):=by exact rfl) (hy:evC σ.s y= .one (.v (.int ik i)):=by exact rfl) (hi:0≤i∧i<len:=by first|assumption|exact ⟨by omega,by omega⟩) (hg:gOk ops σ.s gd:=by first|exact trivial|exact rfl) (hd:dB X.n dst=true:=by exact rfl)
  (hl:Ab P X ops l (σ.app dst ⟨.one (.ptr k (i.toNat*n)),[],[],[]⟩) (fun es σ'=>K (⟨.one (.ptr k (i.toNat*n)),[],[],[]⟩::es) σ')):Ab P X ops (⟨dst,.indexAddr t x y,ty,pos,af,gd⟩::l) σ K:=G3 hi hg hd hx hy hl
theorem Qq {t:TypeId} {x:Operand} {agg:Bool} {n:Nat} [hT:Tsz P t agg n] {k m:Nat} {i:Int} {cs:List C} (hx:evC σ.s x= .one (.ptr k (i.toNat*m)):=by exact rfl) (hm:rdL (σ.m k) (i.toNat*m) n=cs:=by assumption) (hz:i.toNat*m+n≤σ.sz k:=by assumption) (hg:gOk ops σ.s gd:=by first|exact trivial|exact rfl) (hd:dB X.n dst=true:=by exact rfl) (hc:(Nat.blt 0 n&&(agg || Nat.beq n 1))=true:=by exact rfl)
  (hl:Ab P X ops l (σ.app dst ⟨mkA agg cs,[(k,i.toNat*m,cs)],[],[]⟩) (fun es σ'=>K (⟨mkA agg cs,[(k,i.toNat*m,cs)],[],[]⟩::es) σ')):Ab P X ops (⟨dst,.load t x,ty,pos,af,gd⟩::l) σ K:=Io hz hm hg hd hx hc hl
theorem NI {t:TypeId} {x y:Operand} {agg:Bool} {n:Nat} [hT:Tsz P t agg n] {k m:Nat} {i:Int} {av:AV} (hx:evC σ.s x= .one (.ptr k (i.toNat*m)):=by exact rfl) (hz:i.toNat*m+n≤σ.sz k:=by assumption) (hg:gOk ops σ.s gd:=by first|exact trivial|exact rfl) (hd:dB X.n dst=true:=by exact rfl) (hy:evC σ.s y=av:=by exact rfl) (hc:(Nat.beq (As av).length n&&(C8 av || Nat.beq n 1)&&Nat.blt 0 n&&(As av).all nlB)=true:=by exact rfl)
  (hl:Ab P X ops l (σ.app dst ⟨.junk,[],[(k,i.toNat*m,As av)],[]⟩) (fun es σ'=>K (⟨.junk,[],[(k,i.toNat*m,As av)],[]⟩::es) σ')):Ab P X ops (⟨dst,.store t x y,ty,pos,af,gd⟩::l) σ K:=EY hz hg hd hx hy hc hl
theorem Uh {d:Nat} {t e:TypeId} {lo co:Operand} {agg:Bool} {n bytes:Nat} {zv:Value} [S:Sle P t e agg n bytes zv] {kl kc:IntKind} {cap:Nat} (hx:evC σ.s lo= .one (.v (.int kl (cap:Nat))):=by exact rfl) (hy:evC σ.s co= .one (.v (.int kc (cap:Nat))):=by exact rfl) (hp:0<cap:=by omega) (hb:bytes*cap≤281474976710656:=by omega) (hb2:cap≤9223372036854775807:=by omega) (hg:gOk ops σ.s gd:=by first|exact trivial|exact rfl) (hd:dB X.n (some d)=true:=by exact rfl) (hf:Nat.beq (σ.sz d) 0=true:=by exact rfl)
  (hl:Ab P X ops l (σ.app (some d) ⟨.one (.gl d cap n),[],[],[(d,AS cap zv.cells.toList)]⟩) (fun es σ'=>K (⟨.one (.gl d cap n),[],[],[(d,AS cap zv.cells.toList)]⟩::es) σ')):Ab P X ops (⟨some d,.makeSlice t lo co,ty,pos,af,gd⟩::l) σ K:=NR hp hb hb2 hg hd hx hy hf hl
theorem Qr {t e u:TypeId} {x y:Operand} {agg:Bool} {n bytes:Nat} {zv:Value} [S:Sle P t e agg n bytes zv] {α:Type} {f:α→List D} {la:List α} (hx:evC σ.s x= .one (lsG n f la):=by exact rfl) (hne:la.flatMap f≠ []:=by assumption) (hg:gOk ops σ.s gd:=by first|exact trivial|exact rfl) (hd:dB X.n dst=true:=by exact rfl) (hy:evC σ.s y= .one (.v (.slice none 0 0)):=by exact rfl)
  (hl:Ab P X ops l (σ.app dst ⟨.one (.v (.bool false)),[],[],[]⟩) (fun es σ'=>K (⟨.one (.v (.bool false)),[],[],[]⟩::es) σ')):Ab P X ops (⟨dst,.binOp .eql t x y u,ty,pos,af,gd⟩::l) σ K:=Up hne hg hd hx hy hl
theorem Qo {α:Type} {f:α→List D} {la:List α} {t e:TypeId} {x lo hi:Operand} {agg:Bool} {n bytes:Nat} {zv:Value} [S:Sle P t e agg n bytes zv] {k k':IntKind} {a b:Nat} (hx:evC σ.s x= .one (lsG n f la):=by exact rfl) (hlo:evC σ.s lo= .one (.v (.int k (a:Nat))):=by exact rfl) (hhi:evC σ.s hi= .one (.v (.int k' (b:Nat))):=by exact rfl) (hab:a≤b:=by omega) (hb:b≤la.length:=by omega) (hg:gOk ops σ.s gd:=by first|exact trivial|exact rfl) (hd:dB X.n dst=true:=by exact rfl) (hf: ∀a,(f a).length=n:=by intro _;rfl)
  (hl:Ab P X ops l (σ.app dst ⟨.one (lsG n f ((la.take b).drop a)),[],[],[]⟩) (fun es σ'=>K (⟨.one (lsG n f ((la.take b).drop a)),[],[],[]⟩::es) σ')):Ab P X ops (⟨dst,.slice t x (some lo) (some hi) none,ty,pos,af,gd⟩::l) σ K:=RR hab hb (.some hlo rfl) (.some hhi rfl) hg hd hx hf hl
theorem Qp {α:Type} {f:α→List D} {la:List α} {t e:TypeId} {x lo:Operand} {agg:Bool} {n bytes:Nat} {zv:Value} [S:Sle P t e agg n bytes zv] {k:IntKind} {a:Nat} (hx:evC σ.s x= .one (lsG n f la):=by exact rfl) (hlo:evC σ.s lo= .one (.v (.int k (a:Nat))):=by exact rfl) (hab:a≤la.length:=by omega) (hg:gOk ops σ.s gd:=by first|exact trivial|exact rfl) (hd:dB X.n dst=true:=by exact rfl) (hf: ∀a,(f a).length=n:=by intro _;rfl)
  (hl:Ab P X ops l (σ.app dst ⟨.one (lsG n f ((la.take la.length).drop a)),[],[],[]⟩) (fun es σ'=>K (⟨.one (lsG n f ((la.take la.length).drop a)),[],[],[]⟩::es) σ')):Ab P X ops (⟨dst,.slice t x (some lo) none none,ty,pos,af,gd⟩::l) σ K:=RR hab (Xv _) (.some hlo rfl) .none hg hd hx hf hl
theorem Qn {op:Op} {g:Nat} {want:Bool} (hg:Gd ops σ.s g= .one (.v undef):=by exact rfl) (hl:Ab P X ops l (σ.app dst Eo) (fun es σ'=>K (Eo::es) σ')):Ab P X ops (⟨dst,op,ty,pos,af,some (g,want)⟩::l) σ K:=
 .of (fun _ _ hl=>by
  refine .cons (e:=Eo) ?_ (fun p hp=>by cases hp) B7 hl
  have h:=hg
  unfold Gd at h
  split at h
  ·rename_i o ho
   split at h
   ·rename_i d hd
    exact ⟨o,ho,d,hd,.inr (.inr ⟨h,rfl⟩)⟩
   ·cases h
  ·cases h) hl
end
section
variable {P:Program} {X:Ctx} {σ σ':St} {Q:Exit→St→Prop} {id:Nat} {L:List Oper} {es:List Eff}
theorem AW (hq:Q .normal σ') (hn:(L.all fun o=>match o.dst with|some t=>Nat.blt t X.n|none=>true)=true:=by kernel_rfl) (hr:Ab P X L L σ (fun e s=>e=es∧s=σ'):=by ((repeat (first|refine Qq (hl:=?_)|refine NI (hl:=?_)|refine Ay (hl:=?_)|refine BP (hl:=?_)|refine Aq (hl:=?_)|refine Ai (hl:=?_)|refine AA (hl:=?_)|refine Dk (hl:=?_)|refine Ct (hl:=?_)|refine AG (hl:=?_)|refine DQ (hl:=?_)|refine DR (hl:=?_)|refine CT (hl:=?_)|refine AJ (hl:=?_)|refine Pr (hl:=?_)|refine Pq (hl:=?_)|refine Fh (hl:=?_)|refine Cy (hl:=?_)|refine BA (hl:=?_)|refine BB (hl:=?_)|refine BV (hl:=?_)|refine D8 (hl:=?_)|refine G0 (hl:=?_)|refine AP (hl:=?_)|refine AR (hl:=?_)|refine JV (hl:=?_)|refine RS (hl:=?_)|refine AO (hl:=?_)|refine AN (hl:=?_)|refine AB (hl:=?_)|refine Av (hl:=?_)|refine L1 (hl:=?_)|refine BO (hl:=?_)|refine L2 (hl:=?_)|refine Ak (hl:=?_)|refine Uj (hl:=?_)|refine NM (hl:=?_)|refine NL (hl:=?_)|refine NK (hl:=?_)|refine Qu (hl:=?_)|refine Qt (hl:=?_)|refine Qs (hl:=?_)|refine NJ (hl:=?_)|refine VT (hl:=?_)|refine Ui (hl:=?_)|refine Uh (hl:=?_)|refine Qr (hl:=?_)|refine Qo (hl:=?_)|refine Qp (hl:=?_)|refine Qn (hl:=?_)));exact Ab.nil ⟨rfl,rfl⟩)):Aw P X (.region id L.toArray false) σ Q:=by
 obtain ⟨e,s,h1,rfl,rfl⟩:=hr
 exact NF hn h1 hq
theorem AX (hq:Q .normal σ') (hm:P.follows .mixedOrders=true:=by kernel_rfl) (hd:Pa L=true:=by kernel_rfl) (hn:(L.all fun o=>match o.dst with|some t=>Nat.blt t X.n|none=>true)=true:=by kernel_rfl) (hr:Ab P X L L σ (fun e s=>e=es∧s=σ'):=by ((repeat (first|refine Qq (hl:=?_)|refine NI (hl:=?_)|refine Ay (hl:=?_)|refine BP (hl:=?_)|refine Aq (hl:=?_)|refine Ai (hl:=?_)|refine AA (hl:=?_)|refine Dk (hl:=?_)|refine Ct (hl:=?_)|refine AG (hl:=?_)|refine DQ (hl:=?_)|refine DR (hl:=?_)|refine CT (hl:=?_)|refine AJ (hl:=?_)|refine Pr (hl:=?_)|refine Pq (hl:=?_)|refine Fh (hl:=?_)|refine Cy (hl:=?_)|refine BA (hl:=?_)|refine BB (hl:=?_)|refine BV (hl:=?_)|refine D8 (hl:=?_)|refine G0 (hl:=?_)|refine AP (hl:=?_)|refine AR (hl:=?_)|refine JV (hl:=?_)|refine RS (hl:=?_)|refine AO (hl:=?_)|refine AN (hl:=?_)|refine AB (hl:=?_)|refine Av (hl:=?_)|refine L1 (hl:=?_)|refine BO (hl:=?_)|refine L2 (hl:=?_)|refine Ak (hl:=?_)|refine Uj (hl:=?_)|refine NM (hl:=?_)|refine NL (hl:=?_)|refine NK (hl:=?_)|refine Qu (hl:=?_)|refine Qt (hl:=?_)|refine Qs (hl:=?_)|refine NJ (hl:=?_)|refine VT (hl:=?_)|refine Ui (hl:=?_)|refine Uh (hl:=?_)|refine Qr (hl:=?_)|refine Qo (hl:=?_)|refine Qp (hl:=?_)|refine Qn (hl:=?_)));exact Ab.nil ⟨rfl,rfl⟩)) (hc:chk L es=true:=by kernel_rfl):Aw P X (.region id L.toArray true) σ Q:=by
 obtain ⟨e,s,h1,rfl,rfl⟩:=hr
 exact Qf hm hd hn h1 hc hq
theorem BN {ss:List (Nat×AV)} {bs:List (Nat×List C)} (h1: ∀p∈ss,Ent (σ.s p.1) p.2:=by (repeat (first|exact Ao|(refine List.forall_mem_cons.2 ⟨?_,?_⟩;focus (first|exact Ent.of_eq rfl|(refine Ent.one' rfl ?_;(first|exact Aa.qs (by assumption)|exact Aa.ratsLe (by omega)|exact Aa.ratsNil|exact Aa.glNil|(refine Aa.int ?_;omega)|(refine Aa.glLen ?_;first|omega|simp)|exact Aa.of_eq rfl|(refine Aa.q rfl ?_;omega)|exact Aa.qe (by assumption) (by assumption)|exact Z0 _|exact Z2 _|exact Aa.z0 (k:=0)|exact Aa.z1 (k:=0)|exact Aa.z2 (k:=0)|exact Aa.z0|exact Aa.z1|exact Aa.z2))|(refine Ent.agg' rfl ?_;(repeat (first|exact EntL.nil' rfl|(refine EntL.cons' rfl ?_ ?_;focus (first|exact Aa.qs (by assumption)|exact Aa.ratsLe (by omega)|exact Aa.ratsNil|exact Aa.glNil|(refine Aa.int ?_;omega)|(refine Aa.glLen ?_;first|omega|simp)|exact Aa.of_eq rfl|(refine Aa.q rfl ?_;omega)|exact Aa.qe (by assumption) (by assumption)|exact Z0 _|exact Z2 _|exact Aa.z0 (k:=0)|exact Aa.z1 (k:=0)|exact Aa.z2 (k:=0)|exact Aa.z0|exact Aa.z1|exact Aa.z2))));(first|done|fail))))))) (h2: ∀p∈bs,D0 σ (bs.map (·.1)) p:=by (repeat (first|exact Ao|(refine List.forall_mem_cons.2 ⟨?_,?_⟩;focus (first|exact BH inferInstance|(refine Iz inferInstance (by omega) ?_;(repeat (first|exact EntL.nil' rfl|(refine EntL.cons' rfl ?_ ?_;focus (first|exact Aa.qs (by assumption)|exact Aa.ratsLe (by omega)|exact Aa.ratsNil|exact Aa.glNil|(refine Aa.int ?_;omega)|(refine Aa.glLen ?_;first|omega|simp)|exact Aa.of_eq rfl|(refine Aa.q rfl ?_;omega)|exact Aa.qe (by assumption) (by assumption)|exact Z0 _|exact Z2 _|exact Aa.z0 (k:=0)|exact Aa.z1 (k:=0)|exact Aa.z2 (k:=0)|exact Aa.z0|exact Aa.z1|exact Aa.z2))));(first|done|fail))|(refine Hk inferInstance ?_;(repeat (first|exact EntL.nil' rfl|(refine EntL.cons' rfl ?_ ?_;focus (first|exact Aa.qs (by assumption)|exact Aa.ratsLe (by omega)|exact Aa.ratsNil|exact Aa.glNil|(refine Aa.int ?_;omega)|(refine Aa.glLen ?_;first|omega|simp)|exact Aa.of_eq rfl|(refine Aa.q rfl ?_;omega)|exact Aa.qe (by assumption) (by assumption)|exact Z0 _|exact Z2 _|exact Aa.z0 (k:=0)|exact Aa.z1 (k:=0)|exact Aa.z2 (k:=0)|exact Aa.z0|exact Aa.z1|exact Aa.z2))));(first|done|fail))|(refine Vr inferInstance ?_;(repeat (first|exact EntL.nil' rfl|(refine EntL.cons' rfl ?_ ?_;focus (first|exact Aa.qs (by assumption)|exact Aa.ratsLe (by omega)|exact Aa.ratsNil|exact Aa.glNil|(refine Aa.int ?_;omega)|(refine Aa.glLen ?_;first|omega|simp)|exact Aa.of_eq rfl|(refine Aa.q rfl ?_;omega)|exact Aa.qe (by assumption) (by assumption)|exact Z0 _|exact Z2 _|exact Aa.z0 (k:=0)|exact Aa.z1 (k:=0)|exact Aa.z2 (k:=0)|exact Aa.z0|exact Aa.z1|exact Aa.z2))));(first|done|fail))|exact Ub (la:= []) inferInstance|(refine D5 rfl ?_ rfl;(repeat (first|exact EntL.nil' rfl|(refine EntL.cons' rfl ?_ ?_;focus (first|exact Aa.qs (by assumption)|exact Aa.ratsLe (by omega)|exact Aa.ratsNil|exact Aa.glNil|(refine Aa.int ?_;omega)|(refine Aa.glLen ?_;first|omega|simp)|exact Aa.of_eq rfl|(refine Aa.q rfl ?_;omega)|exact Aa.qe (by assumption) (by assumption)|exact Z0 _|exact Z2 _|exact Aa.z0 (k:=0)|exact Aa.z1 (k:=0)|exact Aa.z2 (k:=0)|exact Aa.z0|exact Aa.z1|exact Aa.z2))));(first|done|fail)))))))
  (hb:((ss.all fun p=>inA (bs.map (·.1)) p.2)&&ndB (bs.map (·.1))&&(X.ps.all fun k=>(bs.map (·.1)).any (Nat.beq k)))=true:=by exact rfl):Wk X σ ss bs:=DP h1 h2 hb
theorem TJ {c d:C} (h:Aa c d:=by (first|exact Aa.ratsLe (by omega)|exact Aa.ratsNil|exact Aa.glNil|(refine Aa.int ?_;omega)|(refine Aa.glLen ?_;first|omega|simp)|exact Aa.of_eq rfl|(refine Aa.q rfl ?_;omega)|exact Z0 _|exact Z2 _|exact Aa.z0 (k:=0)|exact Aa.z1 (k:=0)|exact Aa.z2 (k:=0)|exact Aa.z0|exact Aa.z1|exact Aa.z2)):Aa c d:=h
theorem TI {l m:List C} (h:EntL l m:=by ((repeat (first|exact EntL.nil' rfl|(refine EntL.cons' rfl ?_ ?_;focus (exact TJ))));(first|done|fail))):EntL l m:=h
theorem Xd {a b:AV} (h:Ent a b:=by (first|exact Ent.of_eq rfl|(refine Ent.one' rfl ?_;exact TJ)|(refine Ent.agg' rfl ?_;exact TI))):Ent a b:=h
theorem TE {k:Nat} {ss:List (Nat×AV)} {bs:List (Nat×List C)} (h1: ∀p∈ss,FzA σ k (σ.s p.1) p.2:=by (repeat (first|exact Ao|(refine List.forall_mem_cons.2 ⟨?_,?_⟩;focus (first|exact OZ inferInstance|(refine FzA.ent ?_;exact Xd))))))
  (h2: ∀p∈bs,D0 σ (bs.map (·.1)) p:=by (repeat (first|exact Ao|(refine List.forall_mem_cons.2 ⟨?_,?_⟩;focus (first|exact BH inferInstance|(refine D5 rfl ?_ rfl;exact TI))))))
  (hb:((ss.all fun p=>inA (bs.map (·.1)) p.2)&&ndB (bs.map (·.1))&&(X.ps.all fun k=>(bs.map (·.1)).any (Nat.beq k))&&(!X.ps.any (Nat.beq k))&&(bs.all fun p=>!Nat.beq p.1 k))=true:=by exact rfl):Fk X σ k ss bs:=VJ h1 h2 hb
end
theorem Xf {X:Ctx} {μ:Nat→Nat×Nat} {σ:St} {a:Act} {w w' W':World} (h:Cn X μ σ a w) (k:Kp w w') (hE:Ext X.W0 W') (hF:Fr W' w') (hnew: ∀g,alive W' g→alive X.W0 g∨w.heap.size≤g):Ho X W'∧Cn (X.at W') μ σ a w':=by
 have kl:=Kl.of_kp k
 have ext: ∀i,σ.sz i≠0→μ i=μ i∧σ.sz i≠0:=fun i hi=>⟨rfl,hi⟩
 refine ⟨⟨hE,fun g hg=>(hnew g hg).imp_right fun h1=>Nat.le_trans h.kd.size h1⟩,hF,h.kd.trans (.of_kp k),h.defers,h.size,fun t=>(h.slot t).mono kl ext hE,fun i hi=>?_,h.inj,fun i hi=>⟨fun ha=>?_,(h.own i hi).2⟩,h.par⟩
 ·obtain ⟨cs,e,h1,h2,h4,h3⟩:=h.blk i hi
  exact ⟨cs,e,by rw [k.block _ (Array.getElem?_eq_some_iff.1 h1).1];exact h1,h2,h4,fun o x hx=>Ej (h3 o x hx) kl ext hE⟩
 ·rcases hnew _ ha with h1|h1
  ·exact (h.own i hi).1 h1
  ·obtain ⟨cs,e,h2,_⟩:=h.blk i hi
   have:=(Array.getElem?_eq_some_iff.1 h2).1
   omega
section
variable {P:Program} {X:Ctx} {ops l:List Oper} {σ:St} {K:List Eff→St→Prop} {s:Nat→AV} {z:Nat→Nat}
variable {dst:Option Tmp} {ty:TypeId} {pos:String} {af:Array Edge} {gd:Option (Nat×Bool)}
theorem Mk {α:Type} {f:α→List D} {la:List α} {t e:TypeId} {parts:Array (Nat×Operand)} {agg:Bool} {n bytes:Nat} {zv:Value} (hEl:Elm n f) [S:Sle P t e agg n bytes zv] {len:Nat} {ps:List (Nat×AV)} {cs:List C} (hlen:la.length=len) (hd: ∀t,dst=some t→t<X.n) (hps:parts.toList.map (fun p=>(p.1,evC s p.2))=ps)
  (hnl:(ps.all fun p=>(As p.2).all nlB)=true) (hf:Dz (fun i=>some (i*n,n)) (AS len zv.cells.toList) ps=some cs) (hnl2:cs.all nlB=true) (hb:Nat.ble (len*n) 16777216=true) (hp:Nat.blt 0 len=true) (hE:EntL cs (Al f la)):
  Sim P X ⟨dst,.buildSlice t len parts,ty,pos,af,gd⟩ s z ⟨.one (lsG n f la),[],[],[]⟩:=by
 refine Sim.of1 fun W hW=>?_
 clear hW
 replace hd: ∀t,dst=some t→t<(X.at W).n:=hd
 generalize X.at W=X at hd⊢
 intro σ hs hsz _ hal a w hcn K Q hK
 obtain ⟨μ,hcn⟩:=hcn
 obtain ⟨inf,hi,hz,hsize,hby⟩:=S.info
 have hb:=Nat.le_of_ble_eq_true hb
 have hp:0<len:=by simpa using hp
 have hzs:=S.size
 have hpos:=S.pos
 obtain ⟨ol,rfl⟩: ∃ol:List (Nat×Operand),parts=ol.toArray:=⟨parts.toList,by simp⟩
 have hρ': ∀p∈ol,cv X.W0 μ σ.sz w (a.eval p.2) (evC s p.2):=fun p hpm=>by
  have h1:=hcn.ev p.2
  exact Cd (o:=⟨dst,.buildSlice t len ol.toArray,ty,pos,af,gd⟩) hs (by simp [Op.operands];exact ⟨p.1,hpm⟩) h1
 simp only at hps
 subst hps
 have hz0:BS (cc X.W0 μ σ.sz w) (madeCells zv.cells (len*n)).toList (AS len zv.cells.toList):=by
  have:=DO (W0:=X.W0) (μ:=μ) (sz:=σ.sz) (w:=w) (z:=zv.cells) (by omega) len
  rw [hzs] at this
  exact this
 obtain ⟨a',h1,h2⟩:=Iw (W0:=X.W0) (μ:=μ) (sz:=σ.sz) (w:=w) (vs:=ol.map fun p=>(p.1,a.eval p.2)) (by simp) (fun i p q hp hq=>by
  simp only [List.getElem?_map,Option.map_eq_some_iff] at hp hq
  obtain ⟨x,hx,rfl⟩:=hp
  obtain ⟨y,hy,rfl⟩:=hq
  rw [hx] at hy
  cases hy
  refine ⟨rfl,hρ' x (List.mem_of_getElem? hx),fun c hc=>D4 ?_⟩
  have:=List.all_eq_true.1 hnl (x.1,evC s x.2) (List.mem_map.2 ⟨x,List.mem_of_getElem? hx,rfl⟩)
  exact List.all_eq_true.1 this c hc) hz0 hf
 have hr:=run_buildSlice (P:=P) w t e len ((ol.map fun p=>(p.1,a.eval p.2)).toArray) a' inf zv S.hu hi hz (by rw [hsize];omega) (by rw [hsize];have:=Nat.mul_pos hp hpos;omega) (by
  rw [hsize]
  simpa [madeCells] using h1)
 have hrun:(execOp a.eval ⟨dst,.buildSlice t len ol.toArray,ty,pos,af,gd⟩).run P w= .ok (.value (.slice (some ⟨w.heap.size,0,none⟩) len len)) (w.alloc (.cells a' e)):=by
  simp only [execOp]
  rw [show (ol.toArray.map fun x=>match x with|(i,x)=>(i,a.eval x))=(ol.map fun p=>(p.1,a.eval p.2)).toArray by simp]
  simp [hr]
 unfold Oper.wp
 rw [hrun]
 have hkp:Kp w (w.alloc (.cells a' e)):=(Below.refl _ _).alloc (Xv _) _
 have hnl': ∀c∈cs,nl c:=fun c hc=>D4 (List.all_eq_true.1 hnl2 c hc)
 have hna: ¬alive X.W0 w.heap.size:=fun ha=>by
  have h3:=hcn.w0 _ ha
  obtain ⟨c,e',fz,h4,_⟩:=ha
  rw [h4] at h3
  have:=(Array.getElem?_eq_some_iff.1 h3).1
  omega
 have hnw:=heap_alloc_new w (.cells a' e)
 obtain ⟨W',hW'⟩: ∃W',W'=frz X.W0 w.heap.size (.cells a' e (0,0)):=⟨_,rfl⟩
 have hE':Ext X.W0 W':=by rw [hW'];exact F6 _ hna
 have hat:W'.heap[w.heap.size]?=some (.cells a' e (0,0)):=by rw [hW'];exact Gv _ _ _
 have hF:Fr W' (w.alloc (.cells a' e)):=fun g hg=>by
  by_cases hgk:g=w.heap.size
  ·subst hgk;rw [hat];exact hnw
  ·have h3:alive X.W0 g:=by
    rw [hW'] at hg
    rcases Dq hg with h4|h4
    ·exact absurd h4 hgk
    ·exact h4
   have h4:=hcn.w0 _ h3
   have h5:g<w.heap.size:=by
    obtain ⟨c,e',fz,h6,_⟩:=h3
    rw [h6] at h4
    exact (Array.getElem?_eq_some_iff.1 h4).1
   rw [hE' g h3,←h4]
   exact hkp.block g h5
 obtain ⟨hG,hcn'⟩:=Xf hcn hkp hE' hF fun g hg=>by
  rw [hW'] at hg
  rcases Dq hg with h4|h4
  ·exact .inr (by omega)
  ·exact .inl h4
 refine hK _ _ ⟨W',hG,μ,?_⟩
 refine BW hcn' (d:=dst) hd (v:= .slice (some ⟨w.heap.size,0,none⟩) len len) (av:= .one (lsG n f la)) ?_
 subst hlen
 unfold cv cv0 cc dd
 refine ⟨Fc hEl.len la,_,_,rfl,Xv _,fun hne=>⟨w.heap.size,0,rfl,Hi fun i d hi=>?_⟩⟩
 have hbl:(Al f la)[i]?=some (toC d):=by
  show ((la.flatMap f).map toC)[i]?=_
  rw [List.getElem?_map,hi];rfl
 have hic:i<cs.length:=by rw [hE.len];exact (List.getElem?_eq_some_iff.1 hbl).1
 have hia:i<a'.size:=by have:=h2.1;simp at this;omega
 have h3:cc X.W0 μ σ.sz w a'[i] cs[i]:=h2.2 i a'[i] cs[i] (by simp [hia]) (Xw hic)
 have h4:=hE.get i _ _ (Xw hic) hbl _ _ _ _ _ h3
 refine ⟨a'[i],?_,h3.noL (hnl' _ (List.getElem_mem hic)),?_⟩
 ·rw [Nat.zero_add,cell_of_row W' _ _ a' e (0,0) hat]
  exact Array.getElem?_eq_getElem hia
 ·exact Gx.1 (h4.mono (Kl.of_kp hkp) (fun i hi=>⟨rfl,hi⟩) hE')
theorem JW {α:Type} {f:α→List D} {la:List α} {d:Nat} {t e:TypeId} {parts:Array (Nat×Operand)} {agg:Bool} {n bytes:Nat} {zv:Value} [S:Sle P t e agg n bytes zv] {len:Nat} {ps:List (Nat×AV)} {cs:List C} (hlen:la.length=len:=by exact rfl) (hg:gOk ops σ.s gd:=by first|exact trivial|exact rfl) (hd:dB X.n (some d)=true:=by exact rfl) (hx:parts.toList.map (fun p=>(p.1,evC σ.s p.2))=ps:=by exact rfl) (hy:(ps.all fun p=>(As p.2).all nlB)=true:=by exact rfl)
  (hc:Dz (fun i=>some (i*n,n)) (AS len zv.cells.toList) ps=some cs:=by exact rfl) (hf:(cs.all nlB&&Nat.ble (len*n) 16777216&&Nat.blt 0 len)=true:=by exact rfl) (hEl:Elm n f:=by infer_instance)
  (hE:EntL cs (Al f la):=by first|exact EntL.of_eq rfl|((repeat (first|exact EntL.nil' rfl|(refine EntL.cons' rfl ?_ ?_;focus (first|exact Aa.of_eq rfl|exact Aa.qs (by assumption)|(refine Aa.q rfl ?_;omega)|exact Aa.z0|exact Aa.z1|exact Aa.z2))));(first|done|fail)))
  (hl:Ab P X ops l (σ.app (some d) ⟨.one (lsG n f la),[],[],[]⟩) (fun es σ'=>K (⟨.one (lsG n f la),[],[],[]⟩::es) σ')):Ab P X ops (⟨some d,.buildSlice t len parts,ty,pos,af,gd⟩::l) σ K:=by
 simp only [Bool.and_eq_true] at hf
 exact .of (fun _ _ hl=>Run.step hg (Mk hEl hlen (CH hd) hx hy hc hf.1.1 hf.1.2 hf.2 hE) (fun p hp=>by cases hp) B7 hl) hl
end
end Go.Proofs.YtfineedhebhpaaaGreatDoor
