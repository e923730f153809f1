/-
  Several texts in one: Za, Au, Zae, Zb, Zc.
-/
import Derived.Test.YtnkobfcnflphkaaGreatDoorEv
import Derived.Test.YtnkobfcnflphkaaGreatDoorHn
import Derived.Test.YtnkobfcnflphkaaGreatDoorHz
import Derived.Test.YtnkobfcnflphkaaGreatDoorDn
namespace Go.Proofs.YtnkobfcnflphkaaGreatDoor
open Nat renaming le_refl→Zc
open List renaming getElem?_eq_getElem→Zd
open Go.RowKit
set_option linter.unusedVariables false
set_option linter.unusedSimpArgs false
section
variable {P:Program} {X:Ctx} {σ:St} {Q:Exit→St→Prop} {tl:List Oper}
end
def FQ (σ:St) (k:Nat) (ks:List Nat) (p:Nat×List C):Prop:=(σ.sz p.1=p.2.length∧ ∀(i:Nat) c,p.2[i]?=some c→FzC σ k (σ.m p.1 i) c∧nl c)∧p.2.all (inC ks)=true
theorem FQ.of {σ:St} {k:Nat} {ks:List Nat} {p:Nat×List C} (h:DL σ ks p):FQ σ k ks p:=⟨⟨h.1.1,fun i c hc=>⟨.ent (h.1.2 i c hc).1,(h.1.2 i c hc).2⟩⟩,h.2⟩
theorem FQ.gl {α:Type} {n:Nat} {f:α→List D} (hf:Elm n f) {σ:St} {k kb len:Nat} {ks:List Nat} {l:List α} (hz:σ.sz k=(An f l).length:=by exact rfl) (hm:OI (σ.m k) (An f l):=by first|exact Fj|exact En) (hz2:σ.sz kb=1:=by exact rfl) (hm2:σ.m kb 0= .gl k len n:=by exact rfl) (hlen:len=l.length:=by first|rfl|omega):FQ σ k ks (kb,[lsG n f l]):=by
 subst hlen
 have h:=JN (f:=f) (l:=l) hf hz hm
 refine ⟨⟨hz2,fun i c hc=>?_⟩,by simp [inC]⟩
 match i,hc with
 | 0,hc=>
   cases hc
   refine ⟨?_,trivial⟩
   show FzC σ k (σ.m kb 0) _
   rw [hm2]
   cases h with
   | one h=>exact h
   | ent h=>exact .ent fun W0 μ sz w x hx=>h W0 μ sz w x hx
theorem UL {X:Ctx} {σ:St} {k:Nat} {ss:List (Nat×AV)} {bs:List (Nat×List C)} (h1: ∀p∈ss,FzA σ k (σ.s p.1) p.2) (h2: ∀p∈bs,FQ σ k (bs.map (·.1)) p)
  (hb:((ss.all fun p=>inA (bs.map (·.1)) p.2)&&ndB (bs.map (·.1))&&(X.ps.all fun k=>(bs.map (·.1)).any (Nat.beq k))&&(!X.ps.any (Nat.beq k))&&(bs.all fun p=>!Nat.beq p.1 k))=true):Fk X σ k ss bs:=by
 simp only [Bool.and_eq_true,Bool.not_eq_true'] at hb
 refine ⟨h1,fun p hp=>(h2 p hp).1,hb.1.1.1.1,List.all_eq_true.2 fun p hp=>(h2 p hp).2,Ii hb.1.1.1.2,hb.1.1.2,fun hk=>?_,by
  refine List.all_eq_true.2 fun p hp=>?_
  exact List.all_eq_true.1 hb.2 p hp⟩
 have:=List.any_eq_false.1 hb.1.2 k hk
 simp at this
abbrev Cs (j m:Nat) (g:Nat→Rat):C:=Ap j (tab m g)
theorem Q5 {j k:Nat} {x y:Rat} (e:x=y) (h:RSz k y):EntL (nmC j x) (nmC k y):= .cons (Ag.qe e h) (.cons (Ag.qe e h) (.cons (Ag.qe e h) .nil))
section
variable {P:Program} {X:Ctx} {ops l:List Oper} {σ:St} {K:List Eff→St→Prop} {s:Nat→AV} {z:Nat→Nat}
variable {dst:Option Tmp} {ty:TypeId} {pos:String} {af:Array Edge} {gd:Option (Nat×Bool)}
theorem O9 {P:Program} (w:World) (t e:TypeId) (ie:TypeInfo) (hu:P.underlying t=some (.slice e)) (hie:P.info? e=some ie):
  (Instr.buildSlice t 0 #[]).run P w= .ok (.slice (some ⟨w.heap.size,0,none⟩) 0 0) (w.alloc (.cells #[] e)):=by
 simp [Instr.buildSlice,run_underlying hu,sizeOf,typeInfo,hie,Instr.fill,newRow]
 congr 2
 exact Array.ext (by simp) (fun i h1 h2=>by simp at h2)
theorem OX {t e:TypeId} {agg:Bool} {n bytes:Nat} {zv:Value} [S:Sle P t e agg n bytes zv] {id:Nat} (hd: ∀t,dst=some t→t<X.n):
  Sim P X ⟨dst,.buildSlice t 0 #[],ty,pos,af,gd⟩ s z ⟨.one (.gl id 0 n),[],[],[]⟩:=by
 refine Sim.of0 fun W=>?_
 replace hd: ∀t,dst=some t→t<(X.at W).n:=hd
 generalize X.at W=X at hd⊢
 intro σ hs hsz _ hal a w hcn K Q hK
 obtain ⟨μ,hcn⟩:=hcn
 obtain ⟨inf,hi,hz,hsize,hby⟩:=S.info
 have hrun:(execOp a.eval ⟨dst,.buildSlice t 0 #[],ty,pos,af,gd⟩).run P w= .ok (.value (.slice (some ⟨w.heap.size,0,none⟩) 0 0)) (w.alloc (.cells #[] e)):=by
  simp [execOp,O9 w t e inf S.hu hi]
 unfold Oper.wp
 rw [hrun]
 have hkp:Kp w (w.alloc (.cells #[] e)):=(Below.refl _ _).alloc (Zc _) _
 refine hK _ _ ⟨μ,?_⟩
 refine CG (Xi hcn hkp) (d:=dst) hd (v:= .slice (some ⟨w.heap.size,0,none⟩) 0 0) (av:= .one (.gl id 0 n)) ⟨_,0,rfl,Zc _,fun _=>rfl,fun h=>absurd rfl h⟩
theorem G3 {d:Nat} {t e:TypeId} {agg:Bool} {n bytes:Nat} {zv:Value} [S:Sle P t e agg n bytes zv] (hg:gOk ops σ.s gd:=by first|exact trivial|exact rfl) (hd:dB X.n (some d)=true:=by exact rfl)
  (hl:Ai P X ops l (σ.app (some d) ⟨.one (.gl d 0 n),[],[],[]⟩) (fun es σ'=>K (⟨.one (.gl d 0 n),[],[],[]⟩::es) σ')):Ai P X ops (⟨some d,.buildSlice t 0 #[],ty,pos,af,gd⟩::l) σ K:=
 .of (fun _ _ hl=>Run.step hg (OX (DG hd)) (fun p hp=>by cases hp) CL hl) hl
end
theorem Rk {α:Type} {n:Nat} {f:α→List D} (hf:Elm n f) (ks:List Nat) (l:List α):((An f l).all fun c=>nlB c&&inC ks c)=true:=List.all_eq_true.2 fun c hc=>by
 obtain ⟨d,hd,rfl⟩:=List.mem_map.1 hc
 obtain ⟨a,_,hda⟩:=List.mem_flatMap.1 hd
 rw [List.all_eq_true.1 (hf.nl a) d hda,AB (OT d)]
 rfl
section
variable {P:Program} {X:Ctx} {ops l:List Oper} {σ:St} {K:List Eff→St→Prop} {s:Nat→AV} {z:Nat→Nat}
variable {dst:Option Tmp} {ty:TypeId} {pos:String} {af:Array Edge} {gd:Option (Nat×Bool)}
theorem LH (d:Nat) (t e:TypeId) (a:Option Addr) (l c:Nat) (h:P.underlying t=some (.slice e)) (w:World):(Op.equalIn (d+1) t (.slice a l c) (.slice none 0 0)).run P w= .ok a.isNone w:=by
 cases a<;>simp [Op.equalIn,run_underlying h w]
theorem O8 (t e:TypeId) (a:Option Addr) (l c:Nat) (h:P.underlying t=some (.slice e)) (w:World):(Op.equal t (.slice a l c) (.slice none 0 0)).run P w= .ok a.isNone w:=LH 9999 t e a l c h w
theorem LW {t e u:TypeId} {x y:Operand} {agg:Bool} {n bytes:Nat} {zv:Value} [S:Sle P t e agg n bytes zv] {α:Type} {f:α→List D} {la:List α} (hx:evC s x= .one (lsG n f la)) (hne:la.flatMap f≠ []) (hy:evC s y= .one (.v (.slice none 0 0))):
  C5 P ⟨dst,.binOp .eql t x y u,ty,pos,af,gd⟩ s (.one (.v (.bool false))):=fun W0 μ sz w ρ hρ=>by
 have h:=hρ x (by simp [Op.operands])
 rw [hx] at h
 have h':=hρ y (by simp [Op.operands])
 rw [hy] at h'
 replace h':ρ y= .slice none 0 0:=h'
 unfold cv cv0 cc dd at h
 obtain ⟨_,ao,cap,hv,_,h3⟩:=h
 obtain ⟨b,off,rfl,_⟩:=h3 hne
 have h3:(Op.equal t (.slice (some ⟨b,off,none⟩) la.length cap) (.slice none 0 0)).run P w= .ok false w:=O8 t e _ _ _ S.hu w
 refine ⟨.bool false,?_,rfl⟩
 have h4:(binOp .eql t (.slice (some ⟨b,off,none⟩) la.length cap) (.slice none 0 0)).run P w= .ok (.bool false) w:=by
  show (do pure (Value.bool (←Op.equal t _ (.slice none 0 0))):Sem Value).run P w=_
  rw [Sem.run_bind,h3]
  rfl
 have h5:(eqGuard .eql t x y (.slice (some ⟨b,off,none⟩) la.length cap) (.slice none 0 0)).run P w= .ok () w:=rfl
 show (do let v←(do eqGuard .eql t x y (ρ x) (ρ y);binOp .eql t (ρ x) (ρ y):Sem Value);pure (Next.value v):Sem Next).run P w=_
 rw [hv,h',Sem.run_bind,Sem.run_bind,h5,Result.andThen_ok,h4]
 rfl
theorem VC {t e u:TypeId} {x y:Operand} {agg:Bool} {n bytes:Nat} {zv:Value} [S:Sle P t e agg n bytes zv] {α:Type} {f:α→List D} {la:List α} (hne:la.flatMap f≠ []) (hg:gOk ops σ.s gd:=by first|exact trivial|exact rfl) (hd:dB X.n dst=true:=by exact rfl) (hx:evC σ.s x= .one (lsG n f la):=by exact rfl) (hy:evC σ.s y= .one (.v (.slice none 0 0)):=by exact rfl)
  (hl:Ai P X ops l (σ.app dst ⟨.one (.v (.bool false)),[],[],[]⟩) (fun es σ'=>K (⟨.one (.v (.bool false)),[],[],[]⟩::es) σ')):Ai P X ops (⟨dst,.binOp .eql t x y u,ty,pos,af,gd⟩::l) σ K:=
 BJ (o:=⟨dst,.binOp .eql t x y u,ty,pos,af,gd⟩) hg hd (LW hx hne hy) hl
end
theorem Yk {j J:Nat} {σ:St} {ks:List Nat} {k:Nat} {l:List Rat} (h:j≤J) (hb:DL σ ks (k,An (nmD j) l)):DL σ ks (k,An (nmD J) l):=by
 have hl:(An (nmD J) l).length=(An (nmD j) l).length:=by rw [AA (n:=3) inferInstance,AA (n:=3) inferInstance]
 refine ⟨⟨hb.1.1.trans hl.symm,fun o c hc=>⟨?_,E4 (n:=3) inferInstance _ c (List.mem_of_getElem? hc)⟩⟩,Cr ks l⟩
 have key: ∀(l:List Rat) (o:Nat) (c:C),(An (nmD J) l)[o]?=some c→ ∃d,(An (nmD j) l)[o]?=some d∧Ag d c:=by
  intro l
  induction l with
  | nil=>intro o c h;simp [An] at h
  | cons x l ih=>
    intro o c hc
    match o with
    | 0=>exact ⟨_,rfl,by cases hc;exact Ag.q rfl h⟩
    | 1=>exact ⟨_,rfl,by cases hc;exact Ag.q rfl h⟩
    | 2=>exact ⟨_,rfl,by cases hc;exact Ag.q rfl h⟩
    | o+3=>exact ih o c hc
 obtain ⟨d,hd,he⟩:=key l o c hc
 have h2:=(hb.1.2 o d hd).1
 exact fun W0 μ sz w x hx=>he W0 μ sz w x (h2 W0 μ sz w x hx)
section
variable {P:Program} {X:Ctx} {ops l:List Oper} {σ:St} {K:List Eff→St→Prop}
variable {dst:Option Tmp} {ty:TypeId} {pos:String} {af:Array Edge} {gd:Option (Nat×Bool)}
theorem Vu {A:World→Prop} {c:Call} {f:FuncId} {us:List AV} {R:AV} (hcl:BA σ.s c.callee=some (f,[]):=by exact rfl) (has:c.args.toList.map (evC σ.s)=us:=by exact rfl) (hc:Ctr P A f us R:=by assumption) (hA:A X.W0:=by assumption) (hM:MonoA A:=by infer_instance) (hF:Fun P f:=by infer_instance) (hg:gOk ops σ.s gd:=by first|exact trivial|exact rfl) (hd:dB X.n dst=true:=by exact rfl)
  (hl:Ai P X ops l (σ.app dst ⟨R,[],[],[]⟩) (fun es σ'=>K (⟨R,[],[],[]⟩::es) σ')):Ai P X ops (⟨dst,.call c,ty,pos,af,gd⟩::l) σ K:=
 Ay hA hc hg hd hcl (Ents.of_eq has) hl
theorem OF {A:World→Prop} {c:Call} {f:FuncId} {us caps:List AV} {R:AV} {k1:Nat} {c1:List C} (hcl:BA σ.s c.callee=some (f,caps):=by exact rfl) (has:c.args.toList.map (evC σ.s)++caps=us:=by exact rfl) (hc:BF P A f us [(k1,c1,c1)] R:=by assumption) (hA:A X.W0:=by assumption) (hM:MonoA A:=by infer_instance) (hF:Fun P f:=by infer_instance) (hg:gOk ops σ.s gd:=by first|exact trivial|exact rfl) (hd:dB X.n dst=true:=by exact rfl)
  (h1:rdL (σ.m k1) 0 c1.length=c1:=by exact rfl) (hb:((([(k1,c1)]:List (Nat×List C)).all (fun p=>EQ σ.sz p.2.length p)&&([]:List (Nat×List C×List C)).all (fun p=>EQ σ.sz p.2.2.length (p.1,p.2.1))&&((([(k1,c1)]:List (Nat×List C)).map (·.1)++([]:List (Nat×List C×List C)).map (·.1)).all fun k=>(c.args.toList.map (evC σ.s)++caps).any (EV k))&&ndB (([(k1,c1)]:List (Nat×List C)).map (·.1))))=true:=by exact rfl)
  (hl:Ai P X ops l (σ.app dst ⟨R,[(k1,0,c1)],[],[]⟩) (fun es σ'=>K (⟨R,[(k1,0,c1)],[],[]⟩::es) σ')):Ai P X ops (⟨dst,.call c,ty,pos,af,gd⟩::l) σ K:=by
 exact Lp hA [(k1,c1)] hc hg hd hcl (Ents.of_eq has) (List.forall_mem_cons.2 ⟨h1,Aq⟩) hb hl
theorem OE {A:World→Prop} {c:Call} {f:FuncId} {us caps:List AV} {R:AV} {k1 k2:Nat} {c1 c2:List C} (hcl:BA σ.s c.callee=some (f,caps):=by exact rfl) (has:c.args.toList.map (evC σ.s)++caps=us:=by exact rfl) (hc:BF P A f us [(k1,c1,c1),(k2,c2,c2)] R:=by assumption) (hA:A X.W0:=by assumption) (hM:MonoA A:=by infer_instance) (hF:Fun P f:=by infer_instance) (hg:gOk ops σ.s gd:=by first|exact trivial|exact rfl) (hd:dB X.n dst=true:=by exact rfl)
  (h1:rdL (σ.m k1) 0 c1.length=c1:=by exact rfl) (h2:rdL (σ.m k2) 0 c2.length=c2:=by exact rfl) (hb:((([(k1,c1),(k2,c2)]:List (Nat×List C)).all (fun p=>EQ σ.sz p.2.length p)&&([]:List (Nat×List C×List C)).all (fun p=>EQ σ.sz p.2.2.length (p.1,p.2.1))&&((([(k1,c1),(k2,c2)]:List (Nat×List C)).map (·.1)++([]:List (Nat×List C×List C)).map (·.1)).all fun k=>(c.args.toList.map (evC σ.s)++caps).any (EV k))&&ndB (([(k1,c1),(k2,c2)]:List (Nat×List C)).map (·.1))))=true:=by exact rfl)
  (hl:Ai P X ops l (σ.app dst ⟨R,[(k1,0,c1),(k2,0,c2)],[],[]⟩) (fun es σ'=>K (⟨R,[(k1,0,c1),(k2,0,c2)],[],[]⟩::es) σ')):Ai P X ops (⟨dst,.call c,ty,pos,af,gd⟩::l) σ K:=
 Lp hA [(k1,c1),(k2,c2)] hc hg hd hcl (Ents.of_eq has) (List.forall_mem_cons.2 ⟨h1,List.forall_mem_cons.2 ⟨h2,Aq⟩⟩) hb hl
theorem OD {A:World→Prop} {c:Call} {f:FuncId} {us caps:List AV} {R:AV} {k1 k2 k3:Nat} {c1 c2 c3:List C} (hcl:BA σ.s c.callee=some (f,caps):=by exact rfl) (has:c.args.toList.map (evC σ.s)++caps=us:=by exact rfl) (hc:BF P A f us [(k1,c1,c1),(k2,c2,c2),(k3,c3,c3)] R:=by assumption) (hA:A X.W0:=by assumption) (hM:MonoA A:=by infer_instance) (hF:Fun P f:=by infer_instance) (hg:gOk ops σ.s gd:=by first|exact trivial|exact rfl) (hd:dB X.n dst=true:=by exact rfl)
  (h1:rdL (σ.m k1) 0 c1.length=c1:=by exact rfl) (h2:rdL (σ.m k2) 0 c2.length=c2:=by exact rfl) (h3:rdL (σ.m k3) 0 c3.length=c3:=by exact rfl) (hb:((([(k1,c1),(k2,c2),(k3,c3)]:List (Nat×List C)).all (fun p=>EQ σ.sz p.2.length p)&&([]:List (Nat×List C×List C)).all (fun p=>EQ σ.sz p.2.2.length (p.1,p.2.1))&&((([(k1,c1),(k2,c2),(k3,c3)]:List (Nat×List C)).map (·.1)++([]:List (Nat×List C×List C)).map (·.1)).all fun k=>(c.args.toList.map (evC σ.s)++caps).any (EV k))&&ndB (([(k1,c1),(k2,c2),(k3,c3)]:List (Nat×List C)).map (·.1))))=true:=by exact rfl)
  (hl:Ai P X ops l (σ.app dst ⟨R,[(k1,0,c1),(k2,0,c2),(k3,0,c3)],[],[]⟩) (fun es σ'=>K (⟨R,[(k1,0,c1),(k2,0,c2),(k3,0,c3)],[],[]⟩::es) σ')):Ai P X ops (⟨dst,.call c,ty,pos,af,gd⟩::l) σ K:=
 Lp hA [(k1,c1),(k2,c2),(k3,c3)] hc hg hd hcl (Ents.of_eq has) (List.forall_mem_cons.2 ⟨h1,List.forall_mem_cons.2 ⟨h2,List.forall_mem_cons.2 ⟨h3,Aq⟩⟩⟩) hb hl
theorem Rx {A:World→Prop} {c:Call} {f:FuncId} {us caps:List AV} {k:Nat} {b d:List C} {R:AV} (hcl:BA σ.s c.callee=some (f,caps):=by exact rfl) (has:c.args.toList.map (evC σ.s)++caps=us:=by exact rfl) (hc:BF P A f us [(k,b,d)] R:=by assumption) (hA:A X.W0:=by assumption) (hM:MonoA A:=by infer_instance) (hF:Fun P f:=by infer_instance) (hg:gOk ops σ.s gd:=by first|exact trivial|exact rfl) (hd:dB X.n dst=true:=by exact rfl) (hrw:rdL (σ.m k) 0 b.length=b:=by exact rfl)
  (hb:((([]:List (Nat×List C)).all (fun p=>EQ σ.sz p.2.length p)&& [(k,b,d)].all (fun p=>EQ σ.sz p.2.2.length (p.1,p.2.1))&&((([]:List (Nat×List C)).map (·.1)++ [(k,b,d)].map (·.1)).all fun k=>(c.args.toList.map (evC σ.s)++caps).any (KU k)))=true):=by exact rfl)
  (hl:Ai P X ops l (σ.app dst ⟨R,[(k,0,b)],[(k,0,d)],[]⟩) (fun es σ'=>K (⟨R,[(k,0,b)],[(k,0,d)],[]⟩::es) σ')):Ai P X ops (⟨dst,.call c,ty,pos,af,gd⟩::l) σ K:=
 Dz hA hc hg hd hcl (Ents.of_eq has) hrw hb hl
theorem Rw {A:World→Prop} {c:Call} {f:FuncId} {us:List AV} {cs:List C} {d:Nat} (hcl:BA σ.s c.callee=some (f,[]):=by exact rfl) (has:c.args.toList.map (evC σ.s)=us:=by exact rfl) (hc:Vy P A f us cs:=by assumption) (hA:A X.W0:=by assumption) (hM:MonoA A:=by infer_instance) (hF:Fun P f:=by infer_instance) (hg:gOk ops σ.s gd:=by first|exact trivial|exact rfl) (hd:dB X.n (some d)=true:=by exact rfl) (hf:(Nat.beq (σ.sz d) 0&&!cs.isEmpty)=true:=by exact rfl)
  (hl:Ai P X ops l (σ.app (some d) ⟨.one (.ptr d 0),[],[],[(d,cs)]⟩) (fun es σ'=>K (⟨.one (.ptr d 0),[],[],[(d,cs)]⟩::es) σ')):Ai P X ops (⟨some d,.call c,ty,pos,af,gd⟩::l) σ K:=
 Lq hA hc hg hd hf hcl (Ents.of_eq has) hl
theorem Ru {A:World→Prop} {c:Call} {f:FuncId} {us:List AV} {k len n:Nat} {b d:List C} {R:AV} (hcl:BA σ.s c.callee=some (f,[]):=by exact rfl) (has:c.args.toList.map (evC σ.s)=us:=by exact rfl) (hc:BF P A f us [(k,b,d)] R:=by assumption) (hA:A X.W0:=by assumption) (hM:MonoA A:=by infer_instance) (hF:Fun P f:=by infer_instance) (hg:gOk ops σ.s gd:=by first|exact trivial|exact rfl) (hd:dB X.n dst=true:=by exact rfl)
  (hm1:c.args.toList.map (evC σ.s)= .one (.gl k len n)::us.tail:=by exact rfl) (hz:σ.sz k=b.length:=by exact rfl) (hm:OI (σ.m k) b:=by first|exact Fj|exact En) (hlen:0<len:=by omega) (hbd:b.length=d.length:=by assumption) (hb0:0<b.length:=by assumption)
  (hl:Ai P X ops l (σ.app dst ⟨R,[(k,0,b)],[(k,0,d)],[]⟩) (fun es σ'=>K (⟨R,[(k,0,b)],[(k,0,d)],[]⟩::es) σ')):Ai P X ops (⟨dst,.call c,ty,pos,af,gd⟩::l) σ K:=
 VD hA hc ⟨hlen,hbd,hb0⟩ hg hd hcl (Ents.of_eq has) hm1 hz hm hl
theorem OC {A:World→Prop} {c:Call} {f:FuncId} {us caps:List AV} {k:Nat} {cs:List C} {R:AV} (hcl:BA σ.s c.callee=some (f,caps):=by exact rfl) (has:c.args.toList.map (evC σ.s)++caps=us:=by exact rfl) (hc:Cy P A f us [] [(k,cs)] R:=by assumption) (hA:A X.W0:=by assumption) (hM:MonoA A:=by infer_instance) (hF:Fun P f:=by infer_instance) (hg:gOk ops σ.s gd:=by first|exact trivial|exact rfl) (hd:dB X.n dst=true:=by exact rfl)
  (hne:0<cs.length:=by assumption) (hb:Nat.beq (σ.sz k) 0=true:=by exact rfl)
  (hl:Ai P X ops l (σ.app dst ⟨R,[],[],[(k,cs)]⟩) (fun es σ'=>K (⟨R,[],[],[(k,cs)]⟩::es) σ')):Ai P X ops (⟨dst,.call c,ty,pos,af,gd⟩::l) σ K:=
 MH hA [] hc hne hg hd hcl (Ents.of_eq has) Aq (by simp [ndB,hb]) hl
theorem Xp {α:Type} {f:α→List D} {la:List α} {b:α} {t e:TypeId} {x y:Operand} {agg:Bool} {n bytes:Nat} {zv:Value} [S:Sle P t e agg n bytes zv] {ik:IntKind} {i:Int} (hx:evC σ.s x= .one (lsG n f la):=by exact rfl) (hy:evC σ.s y= .one (.v (.int ik i)):=by exact rfl) (ha:la[i.toNat]?=some b:=by assumption) (h0:0≤i:=by omega) (hg:gOk ops σ.s gd:=by first|exact trivial|exact rfl) (hd:dB X.n dst=true:=by exact rfl) (hf: ∀a,(f a).length=n:=by intro _;rfl)
  (hl:Ai P X ops l (σ.app dst ⟨.one (.fp (f b)),[],[],[]⟩) (fun es σ'=>K (⟨.one (.fp (f b)),[],[],[]⟩::es) σ')):Ai P X ops (⟨dst,.indexAddr t x y,ty,pos,af,gd⟩::l) σ K:=G0 ha h0 hg hd hx hy hf hl
theorem Vt {t e:TypeId} {x y:Operand} {agg:Bool} {n bytes:Nat} {zv:Value} [S:Sle P t e agg n bytes zv] {k len:Nat} {ik:IntKind} {i:Int} (hx:evC σ.s x= .one (.gl k len n):=by exact rfl) (hy:evC σ.s y= .one (.v (.int ik i)):=by exact rfl) (hi:0≤i∧i<len:=by first|assumption|exact ⟨by omega,by omega⟩) (hg:gOk ops σ.s gd:=by first|exact trivial|exact rfl) (hd:dB X.n dst=true:=by exact rfl)
  (hl:Ai P X ops l (σ.app dst ⟨.one (.ptr k (i.toNat*n)),[],[],[]⟩) (fun es σ'=>K (⟨.one (.ptr k (i.toNat*n)),[],[],[]⟩::es) σ')):Ai P X ops (⟨dst,.indexAddr t x y,ty,pos,af,gd⟩::l) σ K:=Lo hi hg hd hx hy hl
theorem Rs {t:TypeId} {x:Operand} {agg:Bool} {n:Nat} [hT:Tsz P t agg n] {k m:Nat} {i:Int} {cs:List C} (hx:evC σ.s x= .one (.ptr k (i.toNat*m)):=by exact rfl) (hm:rdL (σ.m k) (i.toNat*m) n=cs:=by assumption) (hz:i.toNat*m+n≤σ.sz k:=by assumption) (hg:gOk ops σ.s gd:=by first|exact trivial|exact rfl) (hd:dB X.n dst=true:=by exact rfl) (hc:(Nat.blt 0 n&&(agg || Nat.beq n 1))=true:=by exact rfl)
  (hl:Ai P X ops l (σ.app dst ⟨mkA agg cs,[(k,i.toNat*m,cs)],[],[]⟩) (fun es σ'=>K (⟨mkA agg cs,[(k,i.toNat*m,cs)],[],[]⟩::es) σ')):Ai P X ops (⟨dst,.load t x,ty,pos,af,gd⟩::l) σ K:=IT hz hm hg hd hx hc hl
theorem OB {t:TypeId} {x y:Operand} {agg:Bool} {n:Nat} [hT:Tsz P t agg n] {k m:Nat} {i:Int} {av:AV} (hx:evC σ.s x= .one (.ptr k (i.toNat*m)):=by exact rfl) (hz:i.toNat*m+n≤σ.sz k:=by assumption) (hg:gOk ops σ.s gd:=by first|exact trivial|exact rfl) (hd:dB X.n dst=true:=by exact rfl) (hy:evC σ.s y=av:=by exact rfl) (hc:(Nat.beq (Av av).length n&&(Df av || Nat.beq n 1)&&Nat.blt 0 n&&(Av av).all nlB)=true:=by exact rfl)
  (hl:Ai P X ops l (σ.app dst ⟨.junk,[],[(k,i.toNat*m,Av av)],[]⟩) (fun es σ'=>K (⟨.junk,[],[(k,i.toNat*m,Av av)],[]⟩::es) σ')):Ai P X ops (⟨dst,.store t x y,ty,pos,af,gd⟩::l) σ K:=S6 hz hg hd hx hy hc hl
theorem Vs {d:Nat} {t e:TypeId} {lo co:Operand} {agg:Bool} {n bytes:Nat} {zv:Value} [S:Sle P t e agg n bytes zv] {kl kc:IntKind} {cap:Nat} (hx:evC σ.s lo= .one (.v (.int kl (cap:Nat))):=by exact rfl) (hy:evC σ.s co= .one (.v (.int kc (cap:Nat))):=by exact rfl) (hp:0<cap:=by omega) (hb:bytes*cap≤281474976710656:=by omega) (hb2:cap≤9223372036854775807:=by omega) (hg:gOk ops σ.s gd:=by first|exact trivial|exact rfl) (hd:dB X.n (some d)=true:=by exact rfl) (hf:Nat.beq (σ.sz d) 0=true:=by exact rfl)
  (hl:Ai P X ops l (σ.app (some d) ⟨.one (.gl d cap n),[],[],[(d,BP cap zv.cells.toList)]⟩) (fun es σ'=>K (⟨.one (.gl d cap n),[],[],[(d,BP cap zv.cells.toList)]⟩::es) σ')):Ai P X ops (⟨some d,.makeSlice t lo co,ty,pos,af,gd⟩::l) σ K:=S9 hp hb hb2 hg hd hx hy hf hl
theorem Rt {t e u:TypeId} {x y:Operand} {agg:Bool} {n bytes:Nat} {zv:Value} [S:Sle P t e agg n bytes zv] {α:Type} {f:α→List D} {la:List α} (hx:evC σ.s x= .one (lsG n f la):=by exact rfl) (hne:la.flatMap f≠ []:=by assumption) (hg:gOk ops σ.s gd:=by first|exact trivial|exact rfl) (hd:dB X.n dst=true:=by exact rfl) (hy:evC σ.s y= .one (.v (.slice none 0 0)):=by exact rfl)
  (hl:Ai P X ops l (σ.app dst ⟨.one (.v (.bool false)),[],[],[]⟩) (fun es σ'=>K (⟨.one (.v (.bool false)),[],[],[]⟩::es) σ')):Ai P X ops (⟨dst,.binOp .eql t x y u,ty,pos,af,gd⟩::l) σ K:=VC hne hg hd hx hy hl
end
section
variable {P:Program} {X:Ctx} {σ σ':St} {Q:Exit→St→Prop} {id:Nat} {L:List Oper} {es:List Eff}
theorem Ak (hq:Q .normal σ') (hn:(L.all fun o=>match o.dst with|some t=>Nat.blt t X.n|none=>true)=true:=by kernel_rfl) (hr:Ai P X L L σ (fun e s=>e=es∧s=σ'):=by ((repeat (first|refine Rs (hl:=?_)|refine OB (hl:=?_)|refine BN (hl:=?_)|refine DM (hl:=?_)|refine AZ (hl:=?_)|refine AC (hl:=?_)|refine BU (hl:=?_)|refine C6 (hl:=?_)|refine Gz (hl:=?_)|refine ER (hl:=?_)|refine C7 (hl:=?_)|refine C8 (hl:=?_)|refine Dc (hl:=?_)|refine B5 (hl:=?_)|refine Qq (hl:=?_)|refine Qp (hl:=?_)|refine Fx (hl:=?_)|refine FT (hl:=?_)|refine Da (hl:=?_)|refine Db (hl:=?_)|refine Iv (hl:=?_)|refine Ec (hl:=?_)|refine H9 (hl:=?_)|refine Cw (hl:=?_)|refine CH (hl:=?_)|refine Kr (hl:=?_)|refine S8 (hl:=?_)|refine Cv (hl:=?_)|refine Cu (hl:=?_)|refine Cj (hl:=?_)|refine B8 (hl:=?_)|refine MG (hl:=?_)|refine Cf (hl:=?_)|refine G3 (hl:=?_)|refine AO (hl:=?_)|refine Vu (hl:=?_)|refine OF (hl:=?_)|refine OE (hl:=?_)|refine OD (hl:=?_)|refine Rx (hl:=?_)|refine Rw (hl:=?_)|refine Ru (hl:=?_)|refine OC (hl:=?_)|refine Xp (hl:=?_)|refine Vt (hl:=?_)|refine Vs (hl:=?_)|refine Rt (hl:=?_)));exact Ai.nil ⟨rfl,rfl⟩)):Aw P X (.region id L.toArray false) σ Q:=by
 obtain ⟨e,s,h1,rfl,rfl⟩:=hr
 exact Oy hn h1 hq
theorem Al (hq:Q .normal σ') (hm:P.follows .mixedOrders=true:=by kernel_rfl) (hd:Ok L=true:=by kernel_rfl) (hn:(L.all fun o=>match o.dst with|some t=>Nat.blt t X.n|none=>true)=true:=by kernel_rfl) (hr:Ai P X L L σ (fun e s=>e=es∧s=σ'):=by ((repeat (first|refine Rs (hl:=?_)|refine OB (hl:=?_)|refine BN (hl:=?_)|refine DM (hl:=?_)|refine AZ (hl:=?_)|refine AC (hl:=?_)|refine BU (hl:=?_)|refine C6 (hl:=?_)|refine Gz (hl:=?_)|refine ER (hl:=?_)|refine C7 (hl:=?_)|refine C8 (hl:=?_)|refine Dc (hl:=?_)|refine B5 (hl:=?_)|refine Qq (hl:=?_)|refine Qp (hl:=?_)|refine Fx (hl:=?_)|refine FT (hl:=?_)|refine Da (hl:=?_)|refine Db (hl:=?_)|refine Iv (hl:=?_)|refine Ec (hl:=?_)|refine H9 (hl:=?_)|refine Cw (hl:=?_)|refine CH (hl:=?_)|refine Kr (hl:=?_)|refine S8 (hl:=?_)|refine Cv (hl:=?_)|refine Cu (hl:=?_)|refine Cj (hl:=?_)|refine B8 (hl:=?_)|refine MG (hl:=?_)|refine Cf (hl:=?_)|refine G3 (hl:=?_)|refine AO (hl:=?_)|refine Vu (hl:=?_)|refine OF (hl:=?_)|refine OE (hl:=?_)|refine OD (hl:=?_)|refine Rx (hl:=?_)|refine Rw (hl:=?_)|refine Ru (hl:=?_)|refine OC (hl:=?_)|refine Xp (hl:=?_)|refine Vt (hl:=?_)|refine Vs (hl:=?_)|refine Rt (hl:=?_)));exact Ai.nil ⟨rfl,rfl⟩)) (hc:chk L es=true:=by kernel_rfl):Aw P X (.region id L.toArray true) σ Q:=by
 obtain ⟨e,s,h1,rfl,rfl⟩:=hr
 exact Rn hm hd hn h1 hc hq
theorem AS {ss:List (Nat×AV)} {bs:List (Nat×List C)} (h1: ∀p∈ss,Ent (σ.s p.1) p.2:=by (repeat (first|exact Aq|(refine List.forall_mem_cons.2 ⟨?_,?_⟩;focus (first|exact Ent.of_eq rfl|(refine Ent.one' rfl ?_;(first|exact Ag.qs (by assumption)|exact Ag.ratsLe (by omega)|exact Ag.ratsNil|exact Ag.glNil|(refine Ag.int ?_;omega)|(refine Ag.glLen ?_;first|omega|simp)|exact Ag.of_eq rfl|(refine Ag.q rfl ?_;omega)|exact Ag.qe (by assumption) (by assumption)|exact Z0 _|exact Z2 _|exact Ag.z0 (k:=0)|exact Ag.z1 (k:=0)|exact Ag.z2 (k:=0)|exact Ag.z0|exact Ag.z1|exact Ag.z2))|(refine Ent.agg' rfl ?_;(repeat (first|exact EntL.nil' rfl|(refine EntL.cons' rfl ?_ ?_;focus (first|exact Ag.qs (by assumption)|exact Ag.ratsLe (by omega)|exact Ag.ratsNil|exact Ag.glNil|(refine Ag.int ?_;omega)|(refine Ag.glLen ?_;first|omega|simp)|exact Ag.of_eq rfl|(refine Ag.q rfl ?_;omega)|exact Ag.qe (by assumption) (by assumption)|exact Z0 _|exact Z2 _|exact Ag.z0 (k:=0)|exact Ag.z1 (k:=0)|exact Ag.z2 (k:=0)|exact Ag.z0|exact Ag.z1|exact Ag.z2))));(first|done|fail))))))) (h2: ∀p∈bs,DL σ (bs.map (·.1)) p:=by (repeat (first|exact Aq|(refine List.forall_mem_cons.2 ⟨?_,?_⟩;focus (first|exact AN inferInstance|(refine Gv inferInstance (by omega) ?_;(repeat (first|exact EntL.nil' rfl|(refine EntL.cons' rfl ?_ ?_;focus (first|exact Ag.qs (by assumption)|exact Ag.ratsLe (by omega)|exact Ag.ratsNil|exact Ag.glNil|(refine Ag.int ?_;omega)|(refine Ag.glLen ?_;first|omega|simp)|exact Ag.of_eq rfl|(refine Ag.q rfl ?_;omega)|exact Ag.qe (by assumption) (by assumption)|exact Z0 _|exact Z2 _|exact Ag.z0 (k:=0)|exact Ag.z1 (k:=0)|exact Ag.z2 (k:=0)|exact Ag.z0|exact Ag.z1|exact Ag.z2))));(first|done|fail))|(refine Es inferInstance ?_;(repeat (first|exact EntL.nil' rfl|(refine EntL.cons' rfl ?_ ?_;focus (first|exact Ag.qs (by assumption)|exact Ag.ratsLe (by omega)|exact Ag.ratsNil|exact Ag.glNil|(refine Ag.int ?_;omega)|(refine Ag.glLen ?_;first|omega|simp)|exact Ag.of_eq rfl|(refine Ag.q rfl ?_;omega)|exact Ag.qe (by assumption) (by assumption)|exact Z0 _|exact Z2 _|exact Ag.z0 (k:=0)|exact Ag.z1 (k:=0)|exact Ag.z2 (k:=0)|exact Ag.z0|exact Ag.z1|exact Ag.z2))));(first|done|fail))|(refine WV inferInstance ?_;(repeat (first|exact EntL.nil' rfl|(refine EntL.cons' rfl ?_ ?_;focus (first|exact Ag.qs (by assumption)|exact Ag.ratsLe (by omega)|exact Ag.ratsNil|exact Ag.glNil|(refine Ag.int ?_;omega)|(refine Ag.glLen ?_;first|omega|simp)|exact Ag.of_eq rfl|(refine Ag.q rfl ?_;omega)|exact Ag.qe (by assumption) (by assumption)|exact Z0 _|exact Z2 _|exact Ag.z0 (k:=0)|exact Ag.z1 (k:=0)|exact Ag.z2 (k:=0)|exact Ag.z0|exact Ag.z1|exact Ag.z2))));(first|done|fail))|exact J8 (la:= []) inferInstance|(refine BB rfl ?_ rfl;(repeat (first|exact EntL.nil' rfl|(refine EntL.cons' rfl ?_ ?_;focus (first|exact Ag.qs (by assumption)|exact Ag.ratsLe (by omega)|exact Ag.ratsNil|exact Ag.glNil|(refine Ag.int ?_;omega)|(refine Ag.glLen ?_;first|omega|simp)|exact Ag.of_eq rfl|(refine Ag.q rfl ?_;omega)|exact Ag.qe (by assumption) (by assumption)|exact Z0 _|exact Z2 _|exact Ag.z0 (k:=0)|exact Ag.z1 (k:=0)|exact Ag.z2 (k:=0)|exact Ag.z0|exact Ag.z1|exact Ag.z2))));(first|done|fail)))))))
  (hb:((ss.all fun p=>inA (bs.map (·.1)) p.2)&&ndB (bs.map (·.1))&&(X.ps.all fun k=>(bs.map (·.1)).any (Nat.beq k)))=true:=by exact rfl):Wk X σ ss bs:=Dr h1 h2 hb
theorem UQ {c d:C} (h:Ag c d:=by (first|exact Ag.ratsLe (by omega)|exact Ag.ratsNil|exact Ag.glNil|(refine Ag.int ?_;omega)|(refine Ag.glLen ?_;first|omega|simp)|exact Ag.of_eq rfl|(refine Ag.q rfl ?_;omega)|exact Z0 _|exact Z2 _|exact Ag.z0 (k:=0)|exact Ag.z1 (k:=0)|exact Ag.z2 (k:=0)|exact Ag.z0|exact Ag.z1|exact Ag.z2)):Ag c d:=h
theorem FI {c d:C} (h:Ag c d:=by (first|exact Ag.ratsLe (by omega)|exact Ag.ratsNil|exact Ag.glNil|(refine Ag.int ?_;omega)|(refine Ag.glLen ?_;first|omega|simp))):Ag c d:=h
theorem EJ {c d:C} (h:Ag c d:=by (first|exact Ag.of_eq rfl|(refine Ag.q rfl ?_;omega)|exact Z0 _|exact Z2 _|exact Ag.z0 (k:=0)|exact Ag.z1 (k:=0)|exact Ag.z2 (k:=0)|exact Ag.z0|exact Ag.z1|exact Ag.z2)):Ag c d:=h
theorem BQ {l m:List C} (h:EntL l m:=by ((repeat (first|exact EntL.nil' rfl|(refine EntL.cons' rfl ?_ ?_;focus (exact UQ))));(first|done|fail))):EntL l m:=h
theorem UR {a b:AV} (h:Ent a b:=by (first|exact Ent.of_eq rfl|(refine Ent.one' rfl ?_;exact UQ)|(refine Ent.agg' rfl ?_;exact BQ))):Ent a b:=h
theorem GY {ss:List (Nat×AV)} (h: ∀p∈ss,Ent (σ.s p.1) p.2:=by (repeat (first|exact Aq|(refine List.forall_mem_cons.2 ⟨?_,?_⟩;focus (exact UR))))): ∀p∈ss,Ent (σ.s p.1) p.2:=h
theorem In {k:Nat} {ss:List (Nat×AV)} {bs:List (Nat×List C)} (h1: ∀p∈ss,FzA σ k (σ.s p.1) p.2:=by (repeat (first|exact Aq|(refine List.forall_mem_cons.2 ⟨?_,?_⟩;focus (first|exact JN inferInstance|(refine FzA.ent ?_;exact UR))))))
  (h2: ∀p∈bs,DL σ (bs.map (·.1)) p:=by (repeat (first|exact Aq|(refine List.forall_mem_cons.2 ⟨?_,?_⟩;focus (first|exact AN inferInstance|(refine BB rfl ?_ rfl;exact BQ))))))
  (hb:((ss.all fun p=>inA (bs.map (·.1)) p.2)&&ndB (bs.map (·.1))&&(X.ps.all fun k=>(bs.map (·.1)).any (Nat.beq k))&&(!X.ps.any (Nat.beq k))&&(bs.all fun p=>!Nat.beq p.1 k))=true:=by exact rfl):Fk X σ k ss bs:=UM h1 h2 hb
theorem UK {k:Nat} {ss:List (Nat×AV)} {bs:List (Nat×List C)} (h1: ∀p∈ss,FzA σ k (σ.s p.1) p.2:=by (repeat (first|exact Aq|(refine List.forall_mem_cons.2 ⟨?_,?_⟩;focus (first|exact JN inferInstance|(refine FzA.ent ?_;exact UR))))))
  (h2: ∀p∈bs,FQ σ k (bs.map (·.1)) p:=by (repeat (first|exact Aq|(refine List.forall_mem_cons.2 ⟨?_,?_⟩;focus (first|exact FQ.gl inferInstance|(refine FQ.of ?_;first|exact AN inferInstance|(refine BB rfl ?_ rfl;exact BQ)))))))
  (hb:((ss.all fun p=>inA (bs.map (·.1)) p.2)&&ndB (bs.map (·.1))&&(X.ps.all fun k=>(bs.map (·.1)).any (Nat.beq k))&&(!X.ps.any (Nat.beq k))&&(bs.all fun p=>!Nat.beq p.1 k))=true:=by exact rfl):Fk X σ k ss bs:=UL h1 h2 hb
end
theorem YN {X:Ctx} {μ:Nat→Nat×Nat} {σ:St} {a:Act} {w w' W':World} (h:Cn X μ σ a w) (k:Kp w w') (hE:Ext X.W0 W') (hF:Fr W' w') (hnew: ∀g,alive W' g→alive X.W0 g∨w.heap.size≤g):IR X W'∧Cn (X.at W') μ σ a w':=by
 have kl:=Kl.of_kp k
 have ext: ∀i,σ.sz i≠0→μ i=μ i∧σ.sz i≠0:=fun i hi=>⟨rfl,hi⟩
 refine ⟨⟨hE,fun g hg=>(hnew g hg).imp_right fun h1=>Nat.le_trans h.kd.size h1⟩,hF,h.kd.trans (.of_kp k),h.defers,h.size,fun t=>(h.slot t).mono kl ext hE,fun i hi=>?_,h.inj,fun i hi=>⟨fun ha=>?_,(h.own i hi).2⟩,h.par⟩
 ·obtain ⟨cs,e,h1,h2,h4,h3⟩:=h.blk i hi
  exact ⟨cs,e,by rw [k.block _ (Array.getElem?_eq_some_iff.1 h1).1];exact h1,h2,h4,fun o x hx=>Er (h3 o x hx) kl ext hE⟩
 ·rcases hnew _ ha with h1|h1
  ·exact (h.own i hi).1 h1
  ·obtain ⟨cs,e,h2,_⟩:=h.blk i hi
   have:=(Array.getElem?_eq_some_iff.1 h2).1
   omega
section
variable {P:Program} {X:Ctx} {ops l:List Oper} {σ:St} {K:List Eff→St→Prop} {s:Nat→AV} {z:Nat→Nat}
variable {dst:Option Tmp} {ty:TypeId} {pos:String} {af:Array Edge} {gd:Option (Nat×Bool)}
theorem Nf {α:Type} {f:α→List D} {la:List α} {t e:TypeId} {parts:Array (Nat×Operand)} {agg:Bool} {n bytes:Nat} {zv:Value} (hEl:Elm n f) [S:Sle P t e agg n bytes zv] {len:Nat} {ps:List (Nat×AV)} {cs:List C} (hlen:la.length=len) (hd: ∀t,dst=some t→t<X.n) (hps:parts.toList.map (fun p=>(p.1,evC s p.2))=ps)
  (hnl:(ps.all fun p=>(Av p.2).all nlB)=true) (hf:DJ (fun i=>some (i*n,n)) (BP len zv.cells.toList) ps=some cs) (hnl2:cs.all nlB=true) (hb:Nat.ble (len*n) 16777216=true) (hp:Nat.blt 0 len=true) (hE:EntL cs (An f la)):
  Sim P X ⟨dst,.buildSlice t len parts,ty,pos,af,gd⟩ s z ⟨.one (lsG n f la),[],[],[]⟩:=by
 refine Sim.of1 fun W hW=>?_
 clear hW
 replace hd: ∀t,dst=some t→t<(X.at W).n:=hd
 generalize X.at W=X at hd⊢
 intro σ hs hsz _ hal a w hcn K Q hK
 obtain ⟨μ,hcn⟩:=hcn
 obtain ⟨inf,hi,hz,hsize,hby⟩:=S.info
 have hb:=Nat.le_of_ble_eq_true hb
 have hp:0<len:=by simpa using hp
 have hzs:=S.size
 have hpos:=S.pos
 obtain ⟨ol,rfl⟩: ∃ol:List (Nat×Operand),parts=ol.toArray:=⟨parts.toList,by simp⟩
 have hρ': ∀p∈ol,cv X.W0 μ σ.sz w (a.eval p.2) (evC s p.2):=fun p hpm=>by
  have h1:=hcn.ev p.2
  exact DR (o:=⟨dst,.buildSlice t len ol.toArray,ty,pos,af,gd⟩) hs (by simp [Op.operands];exact ⟨p.1,hpm⟩) h1
 simp only at hps
 subst hps
 have hz0:B7 (cc X.W0 μ σ.sz w) (madeCells zv.cells (len*n)).toList (BP len zv.cells.toList):=by
  have:=FR (W0:=X.W0) (μ:=μ) (sz:=σ.sz) (w:=w) (z:=zv.cells) (by omega) len
  rw [hzs] at this
  exact this
 obtain ⟨a',h1,h2⟩:=I3 (W0:=X.W0) (μ:=μ) (sz:=σ.sz) (w:=w) (vs:=ol.map fun p=>(p.1,a.eval p.2)) (by simp) (fun i p q hp hq=>by
  simp only [List.getElem?_map,Option.map_eq_some_iff] at hp hq
  obtain ⟨x,hx,rfl⟩:=hp
  obtain ⟨y,hy,rfl⟩:=hq
  rw [hx] at hy
  cases hy
  refine ⟨rfl,hρ' x (List.mem_of_getElem? hx),fun c hc=>D8 ?_⟩
  have:=List.all_eq_true.1 hnl (x.1,evC s x.2) (List.mem_map.2 ⟨x,List.mem_of_getElem? hx,rfl⟩)
  exact List.all_eq_true.1 this c hc) hz0 hf
 have hr:=run_buildSlice (P:=P) w t e len ((ol.map fun p=>(p.1,a.eval p.2)).toArray) a' inf zv S.hu hi hz (by rw [hsize];omega) (by rw [hsize];have:=Nat.mul_pos hp hpos;omega) (by
  rw [hsize]
  simpa [madeCells] using h1)
 have hrun:(execOp a.eval ⟨dst,.buildSlice t len ol.toArray,ty,pos,af,gd⟩).run P w= .ok (.value (.slice (some ⟨w.heap.size,0,none⟩) len len)) (w.alloc (.cells a' e)):=by
  simp only [execOp]
  rw [show (ol.toArray.map fun x=>match x with|(i,x)=>(i,a.eval x))=(ol.map fun p=>(p.1,a.eval p.2)).toArray by simp]
  simp [hr]
 unfold Oper.wp
 rw [hrun]
 have hkp:Kp w (w.alloc (.cells a' e)):=(Below.refl _ _).alloc (Zc _) _
 have hnl': ∀c∈cs,nl c:=fun c hc=>D8 (List.all_eq_true.1 hnl2 c hc)
 have hna: ¬alive X.W0 w.heap.size:=fun ha=>by
  have h3:=hcn.w0 _ ha
  obtain ⟨c,e',fz,h4,_⟩:=ha
  rw [h4] at h3
  have:=(Array.getElem?_eq_some_iff.1 h3).1
  omega
 have hnw:=heap_alloc_new w (.cells a' e)
 obtain ⟨W',hW'⟩: ∃W',W'=frz X.W0 w.heap.size (.cells a' e (0,0)):=⟨_,rfl⟩
 have hE':Ext X.W0 W':=by rw [hW'];exact Mg _ hna
 have hat:W'.heap[w.heap.size]?=some (.cells a' e (0,0)):=by rw [hW'];exact JO _ _ _
 have hF:Fr W' (w.alloc (.cells a' e)):=fun g hg=>by
  by_cases hgk:g=w.heap.size
  ·subst hgk;rw [hat];exact hnw
  ·have h3:alive X.W0 g:=by
    rw [hW'] at hg
    rcases Eq hg with h4|h4
    ·exact absurd h4 hgk
    ·exact h4
   have h4:=hcn.w0 _ h3
   have h5:g<w.heap.size:=by
    obtain ⟨c,e',fz,h6,_⟩:=h3
    rw [h6] at h4
    exact (Array.getElem?_eq_some_iff.1 h4).1
   rw [hE' g h3,←h4]
   exact hkp.block g h5
 obtain ⟨hG,hcn'⟩:=YN hcn hkp hE' hF fun g hg=>by
  rw [hW'] at hg
  rcases Eq hg with h4|h4
  ·exact .inr (by omega)
  ·exact .inl h4
 refine hK _ _ ⟨W',hG,μ,?_⟩
 refine CG hcn' (d:=dst) hd (v:= .slice (some ⟨w.heap.size,0,none⟩) len len) (av:= .one (lsG n f la)) ?_
 subst hlen
 unfold cv cv0 cc dd
 refine ⟨EI hEl.len la,_,_,rfl,Zc _,fun hne=>⟨w.heap.size,0,rfl,Ir fun i d hi=>?_⟩⟩
 have hbl:(An f la)[i]?=some (toC d):=by
  show ((la.flatMap f).map toC)[i]?=_
  rw [List.getElem?_map,hi];rfl
 have hic:i<cs.length:=by rw [hE.len];exact (List.getElem?_eq_some_iff.1 hbl).1
 have hia:i<a'.size:=by have:=h2.1;simp at this;omega
 have h3:cc X.W0 μ σ.sz w a'[i] cs[i]:=h2.2 i a'[i] cs[i] (by simp [hia]) (Zd hic)
 have h4:=hE.get i _ _ (Zd hic) hbl _ _ _ _ _ h3
 refine ⟨a'[i],?_,h3.noL (hnl' _ (List.getElem_mem hic)),?_⟩
 ·rw [Nat.zero_add,cell_of_row W' _ _ a' e (0,0) hat]
  exact Array.getElem?_eq_getElem hia
 ·exact J5.1 (h4.mono (Kl.of_kp hkp) (fun i hi=>⟨rfl,hi⟩) hE')
theorem Ks {α:Type} {f:α→List D} {la:List α} {d:Nat} {t e:TypeId} {parts:Array (Nat×Operand)} {agg:Bool} {n bytes:Nat} {zv:Value} [S:Sle P t e agg n bytes zv] {len:Nat} {ps:List (Nat×AV)} {cs:List C} (hlen:la.length=len:=by exact rfl) (hg:gOk ops σ.s gd:=by first|exact trivial|exact rfl) (hd:dB X.n (some d)=true:=by exact rfl) (hx:parts.toList.map (fun p=>(p.1,evC σ.s p.2))=ps:=by exact rfl) (hy:(ps.all fun p=>(Av p.2).all nlB)=true:=by exact rfl)
  (hc:DJ (fun i=>some (i*n,n)) (BP len zv.cells.toList) ps=some cs:=by exact rfl) (hf:(cs.all nlB&&Nat.ble (len*n) 16777216&&Nat.blt 0 len)=true:=by exact rfl) (hEl:Elm n f:=by infer_instance)
  (hE:EntL cs (An f la):=by first|exact EntL.of_eq rfl|((repeat (first|exact EntL.nil' rfl|(refine EntL.cons' rfl ?_ ?_;focus (first|exact Ag.of_eq rfl|exact Ag.qs (by assumption)|(refine Ag.q rfl ?_;omega)|exact Ag.z0|exact Ag.z1|exact Ag.z2))));(first|done|fail)))
  (hl:Ai P X ops l (σ.app (some d) ⟨.one (lsG n f la),[],[],[]⟩) (fun es σ'=>K (⟨.one (lsG n f la),[],[],[]⟩::es) σ')):Ai P X ops (⟨some d,.buildSlice t len parts,ty,pos,af,gd⟩::l) σ K:=by
 simp only [Bool.and_eq_true] at hf
 exact .of (fun _ _ hl=>Run.step hg (Nf hEl hlen (DG hd) hx hy hc hf.1.1 hf.1.2 hf.2 hE) (fun p hp=>by cases hp) CL hl) hl
end
theorem U5 {W0 w:World} {b j k:Nat} : ∀ {l:List Rat} {off:Nat},(∀r∈l,RSz k r)→ddL W0 w b off (l.flatMap (nmD j))→ddL W0 w b off (l.flatMap (nmD k))
 | [],_,_,hd=>hd
 | x::l,off,h,hd=>by
   rw [List.flatMap_cons] at hd⊢
   show ddL W0 w b off (.q x k 0:: .q x k 1:: .q x k 2::l.flatMap (nmD k))
   replace hd:ddL W0 w b off (.q x j 0:: .q x j 1:: .q x j 2::l.flatMap (nmD j)):=hd
   have hx:=h x List.mem_cons_self
   simp only [ddL] at hd⊢
   obtain ⟨⟨v0,a0,a1,a2⟩,⟨v1,b0,b1,b2⟩,⟨v2,c0,c1,c2⟩,r⟩:=hd
   exact ⟨⟨v0,a0,a1,⟨a2.1,Nat.zero_le _⟩⟩,⟨v1,b0,b1,⟨b2.1,hx.1⟩⟩,⟨v2,c0,c1,⟨c2.1,Q6 hx.2⟩⟩,U5 (fun r hr=>h r (List.mem_cons_of_mem _ hr)) r⟩
theorem Ag.ratsRs {j k:Nat} {l:List Rat} (h: ∀r∈l,RSz k r):Ag (Ap j l) (Ap k l):=fun W0 μ sz w x hx=>by
 unfold cc dd at hx⊢
 obtain ⟨h0,ao,cap,h1,h2,h3⟩:=hx
 refine ⟨EI (f:=nmD k) (es:=3) (fun _=>rfl) l,ao,cap,h1,h2,fun hne=>?_⟩
 have hne':l.flatMap (nmD j)≠ []:=fun h0=>by
  cases l with
  | nil=>exact hne rfl
  | cons a l=>cases h0
 obtain ⟨b,off,h4,h5⟩:=h3 hne'
 exact ⟨b,off,h4,U5 h h5⟩
theorem Ctr.shortArg {P:Program} {A:World→Prop} {f:FuncId} {j k:Nat} {l:List Rat} {R:AV} (h:Ctr P A f [.one (Ap k l)] R) (hs: ∀r∈l,RSz k r):Ctr P A f [.one (Ap j l)] R:=
 BF.weak h (.cons (Ent.one' rfl (Ag.ratsRs hs)) .nil) (Ent.of_eq rfl)
set_option maxRecDepth 20000
set_option maxHeartbeats 4000000
theorem PX {P:Program} {r1 r2:ResultVar} {R a b:AV} {σ:St} {ns:List (Nat×List C)} (hn: ∀q∈ns,DL σ [] q∨DL σ (ns.map (·.1)) q) (h1:ResIs P σ r1 a:=by first|exact ResIs.tmp rfl|exact ResIs.cell inferInstance rfl rfl rfl rfl) (h2:ResIs P σ r2 b:=by first|exact ResIs.tmp rfl|exact ResIs.cell inferInstance rfl rfl rfl rfl) (ha:([a,b].all fun a=>match a with | .tup _=>false|_=>true)=true:=by exact rfl) (hE:Ent (.tup [a,b]) R:=by exact Ent.of_eq rfl):Fin P [r1,r2] [] R σ∧Vx ns σ:=
 ⟨Q4 h1 h2 ha hE,fun q hq=>by rcases hn q hq with h|h<;>exact h.1⟩
theorem WD {P:Program} {r1 r2 r3:ResultVar} {R a b c:AV} {σ:St} (h1:ResIs P σ r1 a:=by first|exact ResIs.tmp rfl|exact ResIs.cell inferInstance rfl rfl rfl rfl) (h2:ResIs P σ r2 b:=by first|exact ResIs.tmp rfl|exact ResIs.cell inferInstance rfl rfl rfl rfl) (h3:ResIs P σ r3 c:=by first|exact ResIs.tmp rfl|exact ResIs.cell inferInstance rfl rfl rfl rfl) (ha:([a,b,c].all fun a=>match a with | .tup _=>false|_=>true)=true:=by exact rfl) (hE:Ent (.tup [a,b,c]) R:=by exact Ent.of_eq rfl):Fin P [r1,r2,r3] [] R σ:=
 ⟨⟨[a,b,c],.cons h1 (.cons h2 (.cons h3 .nil)),.inr ha,hE⟩,fun p hp=>by cases hp⟩
theorem GI {j k:Nat} {x y:Rat} (hj:j≤100000000) (hk:k≤100000000) (h0:y≠0):Ctr Tryz.prog Amb 103 [nm j x,nm k y] (nm (j+k+2) (x/y)):=by
 have Q1:=YO (j:=j) (k:=k) (x:=x) (y:=y) hj hk h0
 refine Am Tryz.func103 rfl rfl rfl rfl rfl rfl ?_
 intro W0 base D μ0 hA hD
 repeat (first|refine Af ?_|refine Ac ?_|refine Aa rfl ?_|refine Ab rfl ?_|refine Ak ?_|refine Al ?_|refine Ad ?_|refine Ae ?_)
 refine As (And.intro (Or.inr rfl) ?_)
 exact AX
theorem QG {j:Nat} {t:Rat} (hj:j≤10000000):Ctr Tryz.prog Amb 120 [nm j t] (.tup [nm (2*j+4) (t*A0 t),nm (3*j+9) (A0 t-t*A0 t),nm (j+2) (A0 t)]):=by
 have D1:=Xl (j:=j) (x:=t) (by omega)
 have M1:=FP (j:=j) (k:=j+2) (x:=t) (y:=A0 t) (by omega) (by omega)
 have S1:=Vi (j:=j+2) (k:=j+(j+2)+2) (x:=A0 t) (y:=t*A0 t) (by omega) (by omega)
 refine Am Tryz.func120 rfl rfl rfl rfl rfl rfl ?_
 intro W0 base D μ0 hA hD
 repeat (first|refine Af ?_|refine Ac ?_|refine Aa rfl ?_|refine Ab rfl ?_|refine Ak ?_|refine Al ?_|refine Ad ?_|refine Ae ?_)
 refine As (And.intro (Or.inr rfl) ?_)
 exact WD (hE:=(by first|exact Ent.of_eq rfl|(refine Ent.tup rfl ?_;(repeat (first|exact EntT.nil|(refine EntT.cons ?_ rfl rfl ?_;focus (first|exact Ent.of_eq rfl|(refine Ent.agg' rfl ?_;(repeat (first|exact EntL.nil' rfl|(refine EntL.cons' rfl ?_ ?_;focus exact EJ)));done)|(refine Ent.one' rfl ?_;exact EJ)))));done)))
def D9 (a q:Rat) (i:Nat):Rat:=a*q^i
theorem Il (a q:Rat):D9 a q 0=a:=by unfold D9;rw [Rat.pow_zero,Rat.mul_one]
theorem Im (a q:Rat) (i:Nat):D9 a q (i+1)=D9 a q i*q:=by unfold D9;rw [Rat.pow_succ,Rat.mul_assoc]
theorem Ix {ja jq n J:Nat} {a q:Rat} (h1:ja≤10000000) (h2:jq≤10000000) (h3:J≤10000000) (hn:n≤1000) (hJ: ∀i,i≤n→RSz J (D9 a q i)):
  Ctr Tryz.prog Amb 122 [nm ja a,nm jq q,At (n:Nat)] (.one (Cs J (n+1) (D9 a q))):=by
 have h0:=hJ 0 (Nat.zero_le _)
 rw [Il] at h0
 refine Am Tryz.func122 rfl rfl rfl rfl rfl rfl ?_
 intro W0 base D μ0 hA hD
 repeat (first|refine Af ?_|refine Ac ?_|refine Aa rfl ?_|refine Ab rfl ?_|refine Ak ?_|refine Al ?_|refine Ad ?_|refine Ae ?_)
 refine AK (fun m σ=> ∃(i:Nat) (done:List Rat),m=n-i∧i≤n∧done=tab (i+1) (D9 a q)∧Wk ⟨W0,base,D,26,[],μ0⟩ σ [(4,.one (.ptr 4 0)),(7,.one (.gl 10 done.length 3)),(11,At (n:Nat)),(12,At (i:Nat))] [(10,An (nmD J) done),(4,nmC jq q)]) (n:=n) ⟨0,[a],by omega,by omega,by simp [tab,Il],?_⟩ ?_
 ·exact AS
 intro m σ hI
 obtain ⟨i,done,hm,hi0,hdone,hw⟩:=hI
 refine A5 hw ?_
 clear hw
 have hdl:done.length=i+1:=by rw [hdone];simp
 by_cases hi:i<n
 ·have bi:=AJ (k:= .i64) (decide_eq_true (show (i:Int)<(n:Int) by omega))
  have hin:=AL (k:= .i64) (show (IntKind.i64).wrap ((i:Int)+1)=((i+1:Nat):Int) from IntWalk.i64_in _ (by omega))
  have hx:done[((i:Nat):Int).toNat]?=some (D9 a q i):=by rw [hdone];exact A8 (by omega)
  have lt1:(0:Int)≤((i:Nat):Int)∧((i:Nat):Int)<(done.length:Nat):=by omega
  have st1:((i:Nat):Int).toNat*3+3≤(An (nmD J) done).length:=by rw [AA (n:=3) inferInstance,Int.toNat_natCast];omega
  have ld1:=Ca (f:=nmD J) (n:=3) inferInstance hx
  have M1:=FP (j:=J) (k:=jq) (x:=D9 a q i) (y:=q) (by omega) (by omega)
  have hs:=hJ (i+1) (by omega)
  rw [Im] at hs
  have ht:done++ [D9 a q i*q]=tab (i+1+1) (D9 a q):=by rw [hdone,←Im];exact G8
  generalize D9 a q i=x at*
  repeat (first|refine Af ?_|refine Ac ?_|refine Aa rfl ?_|refine Ab rfl ?_|refine Ak ?_|refine Al ?_|refine Ad ?_|refine Ae ?_)
  try refine Af ?_
  refine Oz 8 (by simp only [List.take_succ_cons,List.take_zero,List.drop_succ_cons,List.drop_zero];exact ⟨rfl,rfl⟩) (by kernel_rfl) (by kernel_rfl) (by kernel_rfl) (by kernel_rfl) (by kernel_rfl) ?_
  repeat (first
   | refine IT (k:=10) st1 ld1 (hl:=?_)
   | refine AZ (hl:=?_)
   | refine AC (hl:=?_)
   | refine BU (hl:=?_)
   | refine Gz (hl:=?_)
   | refine B5 (hl:=?_)
   | refine AO (hl:=?_)
   | refine Cv (hl:=?_)
   | refine Cu (hl:=?_)
   | refine Cw (hl:=?_)
   | refine B8 (hl:=?_)
   | refine Cf (hl:=?_)
   | refine Lo lt1 (hl:=?_)
   | refine Ay hA (hc:=M1) (hl:=?_))
  apply Ai.nil
  refine And.intro (by kernel_rfl) ?_
  refine Iw (k:=10) (ss:= [(4,.one (.ptr 4 0)),(11,At (n:Nat)),(12,At (i:Nat))]) (bs:= [(4,nmC jq q)]) (ns:=(nmC (J+jq+2) (x*q))) hD ?_ ?_ ?_
  ·exact ⟨by omega,by omega⟩
  ·exact AS
  repeat (refine FU rfl ?_;(first|refine AC (hl:=?_)|refine AZ (hl:=?_)|refine BN (hl:=?_));apply Ai.nil)
  refine FV ?_
  repeat (first|refine Af ?_|refine Ac ?_|refine Aa rfl ?_|refine Ab rfl ?_|refine Ak ?_|refine Al ?_|refine Ad ?_|refine Ae ?_)
  refine ⟨m-1,by omega,i+1,done++ [x*q],by omega,by omega,ht,?_⟩
  exact AS
 ·have bi:=AJ (k:= .i64) (decide_eq_false (show ¬(i:Int)<(n:Int) by omega))
  obtain rfl:i=n:=by omega
  repeat (first|refine Af ?_|refine Ac ?_|refine Aa rfl ?_|refine Ab rfl ?_|refine Ak ?_|refine Al ?_|refine Ad ?_|refine Ae ?_)
  refine BG 10 hD (ss:= [(6,.one (Ap J done))]) (bs:= []) ?_ ?_
  ·exact In
  subst hdone
  refine As (And.intro (Or.inr rfl) ?_)
  exact AX
theorem Nh {ju jd n J:Nat} {u d:Rat} {f:Nat→Rat} (h1:ju≤10000000) (h2:jd≤10000000) (h3:J≤10000000) (hn:n≤1000) (hJ: ∀k i,k+i≤n→RSz J (BO u d f k i)):
  BF Tryz.prog Amb 121 [.one (.gl 26 (n+1) 3),nm ju u,nm jd d] [(26,An (nmD J) (tab (n+1) f),An (nmD J) (tab (n+1) fun q=>BO u d f (n-q) q))] (.one (Cs J (n+1) fun k=>BO u d f k 0)):=by
 have hdn:=BI (k:= .i64) (show (IntKind.i64).wrap (((n+1:Nat):Int)-1)=(n:Int) by rw [show (((n+1:Nat):Int)-1)=(n:Int) by omega];exact IntWalk.i64_in _ (by omega))
 obtain ⟨R,hR⟩: ∃R,R=tab (n+1) fun q=>BO u d f (n-q) q:=⟨_,rfl⟩
 obtain ⟨L,hL⟩: ∃L,L=tab (n+1) f:=⟨_,rfl⟩
 rw [←hR,←hL]
 have hLl:L.length=n+1:=by rw [hL];simp
 have hst:=Qc (u:=u) (d:=d) (f:=f) (n:=n)
 rw [←hL] at hst
 apply Am Tryz.func121 rfl rfl rfl rfl
 case hpf=>
  simp only [List.all_cons,List.all_nil,Bool.and_true,Bool.and_eq_true]
  exact ⟨rfl,I6 _,I6 _⟩
 case hin=>simp [inA,inC]
 intro W0 base D μ0 hA hD
 have hx0:L[((0:Nat):Int).toNat]?=some (f 0):=by rw [hL];exact A8 (by omega)
 have lt0:(0:Int)≤((0:Nat):Int)∧((0:Nat):Int)<((n+1:Nat):Int):=by omega
 have st0:((0:Nat):Int).toNat*3+3≤(An (nmD J) L).length:=by rw [AA (n:=3) inferInstance,Int.toNat_natCast];omega
 have ld0:=Ca (f:=nmD J) (n:=3) inferInstance hx0
 repeat (first|refine Af ?_|refine Ac ?_|refine Aa rfl ?_|refine Ab rfl ?_|refine Ak ?_|refine Al ?_|refine Ad ?_|refine Ae ?_)
 refine AK (fun m σ=> ∃(s:Nat) (cur done:List Rat),m=n-s∧s≤n∧cur=tab (n+1) (GU u d f n s 0)∧done=tab (s+1) (fun k=>BO u d f k 0)∧Wk ⟨W0,base,D,54,[26],μ0⟩ σ [(0,.one (.gl 26 (n+1) 3)),(4,.one (.ptr 4 0)),(5,.one (.ptr 5 0)),(7,At (n:Nat)),(8,.one (.gl 17 done.length 3)),(18,At (n:Nat)),(19,At (s:Nat))] [(26,An (nmD J) cur),(17,An (nmD J) done),(4,nmC ju u),(5,nmC jd d)]) (n:=n) ⟨0,L,[f 0],by omega,by omega,hst.symm,by simp [tab,BO],?_⟩ ?_
 ·exact AS
 intro m σ hI
 obtain ⟨s,cur,done,hm,hs0,hcur,hdone,hw⟩:=hI
 refine A5 hw ?_
 clear hw hst hx0 ld0 st0 lt0
 have hdl:done.length=s+1:=by rw [hdone];simp
 by_cases hs:s<n
 ·have bs:=AJ (k:= .i64) (decide_eq_true (show (s:Int)<(n:Int) by omega))
  have hsn:=BI (k:= .i64) (show (IntKind.i64).wrap ((n:Int)-(s:Int))=((n-s:Nat):Int) by rw [show ((n:Int)-(s:Int))=((n-s:Nat):Int) by omega];exact IntWalk.i64_in _ (by omega))
  repeat (first|refine Af ?_|refine Ac ?_|refine Aa rfl ?_|refine Ab rfl ?_|refine Ak ?_|refine Al ?_|refine Ad ?_|refine Ae ?_)
  refine AK (fun b σ=> ∃(i:Nat) (cur:List Rat),b=n-s-i∧i≤n-s∧cur=tab (n+1) (GU u d f n s i)∧Wk ⟨W0,base,D,54,[26],μ0⟩ σ [(0,.one (.gl 26 (n+1) 3)),(4,.one (.ptr 4 0)),(5,.one (.ptr 5 0)),(7,At (n:Nat)),(8,.one (.gl 17 done.length 3)),(18,At (n:Nat)),(19,At (s:Nat)),(24,At ((n-s:Nat):Int)),(25,At (i:Nat))] [(26,An (nmD J) cur),(17,An (nmD J) done),(4,nmC ju u),(5,nmC jd d)]) (n:=n-s) ⟨0,cur,by omega,by omega,hcur,?_⟩ ?_
  ·exact AS
  clear hcur cur
  intro b σ hI
  obtain ⟨i,cur,hb,hi0,hcur,hw⟩:=hI
  refine A5 hw ?_
  clear hw
  have hcl:cur.length=n+1:=by rw [hcur];simp
  by_cases hi:i<n-s
  ·have bi:=AJ (k:= .i64) (decide_eq_true (show (i:Int)<((n-s:Nat):Int) by omega))
   have hin:=AL (k:= .i64) (show (IntKind.i64).wrap ((i:Int)+1)=((i+1:Nat):Int) from IntWalk.i64_in _ (by omega))
   have hx:cur[((i:Nat):Int).toNat]?=some (BO u d f s i):=by rw [hcur,←Mt (u:=u) (d:=d) (f:=f) (n:=n) (k:=s) (i:=i) (q:=i) (by omega) (by omega)];exact A8 (by omega)
   have hy:cur[((i+1:Nat):Int).toNat]?=some (BO u d f s (i+1)):=by rw [hcur,←Mt (u:=u) (d:=d) (f:=f) (n:=n) (k:=s) (i:=i) (q:=i+1) (by omega) (by omega)];exact A8 (by omega)
   have lt1:(0:Int)≤((i:Nat):Int)∧((i:Nat):Int)<((n+1:Nat):Int):=by omega
   have lt2:(0:Int)≤((i+1:Nat):Int)∧((i+1:Nat):Int)<((n+1:Nat):Int):=by omega
   have st1:((i:Nat):Int).toNat*3+3≤(An (nmD J) cur).length:=by rw [AA (n:=3) inferInstance,Int.toNat_natCast];omega
   have st2:((i+1:Nat):Int).toNat*3+3≤(An (nmD J) cur).length:=by rw [AA (n:=3) inferInstance,Int.toNat_natCast];omega
   have ld1:=Ca (f:=nmD J) (n:=3) inferInstance hx
   have ld2:=Ca (f:=nmD J) (n:=3) inferInstance hy
   have M1:=FP (j:=jd) (k:=J) (x:=d) (y:=BO u d f s i) (by omega) (by omega)
   have M2:=FP (j:=ju) (k:=J) (x:=u) (y:=BO u d f s (i+1)) (by omega) (by omega)
   have A1:=Vk (j:=jd+J+2) (k:=ju+J+2) (x:=d*BO u d f s i) (y:=u*BO u d f s (i+1)) (by omega) (by omega)
   have hz:=hJ (s+1) i (by omega)
   have ht:=Vf (u:=u) (d:=d) (f:=f) (n:=n) (k:=s) (i:=i) (by omega) rfl
   rw [←hcur] at ht
   replace hz:RSz J (d*BO u d f s i+u*BO u d f s (i+1)):=hz
   generalize BO u d f s i=x at*
   generalize BO u d f s (i+1)=y at*
   repeat (first|refine Af ?_|refine Ac ?_|refine Aa rfl ?_|refine Ab rfl ?_|refine Ak ?_|refine Al ?_|refine Ad ?_|refine Ae ?_)
   refine ⟨b-1,by omega,i+1,cur.set i (d*x+u*y),by omega,by omega,ht,?_⟩
   exact AS
  ·have bi:=AJ (k:= .i64) (decide_eq_false (show ¬(i:Int)<((n-s:Nat):Int) by omega))
   obtain rfl:i=n-s:=by omega
   have hin:=AL (k:= .i64) (show (IntKind.i64).wrap ((s:Int)+1)=((s+1:Nat):Int) from IntWalk.i64_in _ (by omega))
   rw [SR (by omega)] at hcur
   have hx:cur[((0:Nat):Int).toNat]?=some (BO u d f (s+1) 0):=by rw [hcur,←Mt (u:=u) (d:=d) (f:=f) (n:=n) (k:=s+1) (i:=0) (q:=0) (by omega) (by omega)];exact A8 (by omega)
   have lt1:(0:Int)≤((0:Nat):Int)∧((0:Nat):Int)<((n+1:Nat):Int):=by omega
   have st1:((0:Nat):Int).toNat*3+3≤(An (nmD J) cur).length:=by rw [AA (n:=3) inferInstance,Int.toNat_natCast];omega
   have ld1:=Ca (f:=nmD J) (n:=3) inferInstance hx
   have ht:done++ [BO u d f (s+1) 0]=tab (s+1+1) fun k=>BO u d f k 0:=by rw [hdone];exact G8 (g:=fun k=>BO u d f k 0)
   generalize BO u d f (s+1) 0=x at*
   repeat (first|refine Af ?_|refine Ac ?_|refine Aa rfl ?_|refine Ab rfl ?_|refine Ak ?_|refine Al ?_|refine Ad ?_|refine Ae ?_)
   try refine Af ?_
   refine Et 5 (by simp only [List.take_succ_cons,List.take_zero,List.drop_succ_cons,List.drop_zero];exact ⟨rfl,rfl⟩) (by kernel_rfl) ?_
   repeat (first
    | refine IT (k:=26) st1 ld1 (hl:=?_)
    | refine AZ (hl:=?_)
    | refine AC (hl:=?_)
    | refine BU (hl:=?_)
    | refine BN (hl:=?_)
    | refine Gz (hl:=?_)
    | refine B5 (hl:=?_)
    | refine AO (hl:=?_)
    | refine Cv (hl:=?_)
    | refine Cu (hl:=?_)
    | refine Cw (hl:=?_)
    | refine Cj (hl:=?_)
    | refine B8 (hl:=?_)
    | refine Cf (hl:=?_)
    | refine Lo lt1 (hl:=?_))
   apply Ai.nil
   refine Iw (k:=17) (ss:= [(0,.one (.gl 26 (n+1) 3)),(4,.one (.ptr 4 0)),(5,.one (.ptr 5 0)),(7,At (n:Nat)),(18,At (n:Nat)),(19,At (s:Nat))]) (bs:= [(26,An (nmD J) cur),(4,nmC ju u),(5,nmC jd d)]) (ns:=(nmC J x)) hD ?_ ?_ ?_
   ·exact ⟨by omega,by omega⟩
   ·exact AS
   repeat (refine FU rfl ?_;(first|refine AC (hl:=?_)|refine AZ (hl:=?_)|refine BN (hl:=?_));apply Ai.nil)
   refine FV ?_
   repeat (first|refine Af ?_|refine Ac ?_|refine Aa rfl ?_|refine Ab rfl ?_|refine Ak ?_|refine Al ?_|refine Ad ?_|refine Ae ?_)
   refine ⟨m-1,by omega,s+1,cur,done++ [x],by omega,by omega,hcur,ht,?_⟩
   exact AS
 ·have bs:=AJ (k:= .i64) (decide_eq_false (show ¬(s:Int)<(n:Int) by omega))
  obtain rfl:s=n:=by omega
  rw [Vg,←hR] at hcur
  subst hcur
  repeat (first|refine Af ?_|refine Ac ?_|refine Aa rfl ?_|refine Ab rfl ?_|refine Ak ?_|refine Al ?_|refine Ad ?_|refine Ae ?_)
  refine BG 17 hD (ss:= [(6,.one (Ap J done))]) (bs:= [(26,An (nmD J) cur)]) ?_ ?_
  ·exact In
  subst hdone
  refine As (And.intro (Or.inr rfl) ⟨(AX (hE:=Ent.of_eq rfl)).1,?_⟩)
  exact List.forall_mem_cons.2 ⟨(AN (ks:= []) inferInstance).1,Aq⟩
theorem Dd {j:Nat} {l:List Rat} (h1:0<l.length) (h2:l.length≤41):Ctr Tryz.prog Amb 98 [.one (Ap j l)] (.one (.v (.bool true))):=by
 have b1:=DH (k:= .i64) (decide_eq_true (show (l.length:Int)>0 by omega))
 have b2:=Gb (k:= .i64) (decide_eq_true (show (l.length:Int)≤41 by omega))
 refine Am Tryz.func98 rfl rfl rfl rfl rfl rfl ?_
 intro W0 base D μ0 hA hD
 repeat (first|refine Af ?_|refine Ac ?_|refine Aa rfl ?_|refine Ab rfl ?_|refine Ak ?_|refine Al ?_|refine Ad ?_|refine Ae ?_)
 refine As (And.intro (Or.inr rfl) ?_)
 exact AX
theorem EZ {α:Type} {l:List α} {i:Nat} {x:α} (h:l[i]?=some x):l.drop i=x::l.drop (i+1):=by
 have hi:=(List.getElem?_eq_some_iff.1 h)
 rw [List.drop_eq_getElem_cons hi.1,hi.2]
abbrev DP:Rat:=((1:Int):Rat)
theorem V8 {j J:Nat} {l:List Rat} (hl:l.length≤100) (hne:0<l.length) (hj:j≤100000) (hr: ∀r∈l,RSz j r) (hJ:l.length*j+2+j+2≤J):
  Cy Tryz.prog Amb 100 [.one (Ap j l)] [] [(26,An (nmD J) (l.map fun r=>whS DP l*r))] (.tup [.one (.gl 26 (l.map fun r=>whS DP l*r).length 3),nm (l.length*j+2) (whS DP l)]):=by
 have hjs:l.length*j≤10000000:=Nat.le_trans (Nat.mul_le_mul hl hj) (by decide)
 obtain ⟨js,hjse⟩: ∃js,js=l.length*j+2:=⟨_,rfl⟩
 rw [←hjse] at hJ⊢
 obtain ⟨S,hS⟩: ∃S,S=whS DP l:=⟨_,rfl⟩
 rw [←hS]
 obtain ⟨h,hh⟩: ∃h:Rat→Rat,h=fun r=>S*r:=⟨_,rfl⟩
 rw [←hh]
 have hne':(!(An (nmD J) (l.map h)).isEmpty)=true:=by
  have:=Cb (f:=nmD J) inferInstance (by decide) (show 0<(l.map h).length by simpa using hne)
  cases hb:An (nmD J) (l.map h) with
  | nil=>rw [hb] at this;cases this
  | cons a b=>rfl
 have I1:=Vj (n:=1) rfl
 refine CV Tryz.func100 rfl rfl rfl rfl (by
  simp only [List.all_cons,List.all_nil,Bool.and_true,Bool.and_eq_true]
  exact ⟨by simp [inA,inC],Cr _ _,hne'⟩) (by simp [inA,inC]) (by simp) (by simp) ?_
 intro W0 base D μ0 hA hD
 repeat (first|refine Af ?_|refine Ac ?_|refine Aa rfl ?_|refine Ab rfl ?_|refine Ak ?_|refine Al ?_|refine Ad ?_|refine Ae ?_)
 refine AK (fun b σ=> ∃(i m:Nat),b=l.length-i∧i≤l.length∧0<m∧Sz (i*j+2) m∧whS ((m:Int):Rat) (l.drop i)=S∧Wk ⟨W0,base,D,43,[],μ0⟩ σ [(0,.one (Ap j l)),(3,.one (.ptr 3 0)),(4,.one (.ptr 4 0)),(11,.one (Ap j l)),(12,At (l.length:Nat)),(13,At (i:Nat))] [(3,nmC 2 0),(4,nmC js ((m:Int):Rat))]) (n:=l.length) ⟨0,1,by omega,by omega,by decide,Aj _ _ (by rw [Nat.zero_mul];decide),hS.symm,?_⟩ ?_
 ·exact AS
 intro b σ hI
 obtain ⟨i,m,hb,hi0,hm,hms,hw0,hw⟩:=hI
 refine A5 hw ?_
 clear hw
 by_cases hi:i<l.length
 ·obtain ⟨x,hx,hx'⟩:=FG hi
  have bi:=AJ (k:= .i64) (decide_eq_true (show (i:Int)<(l.length:Int) by omega))
  have hin:=AL (k:= .i64) (show (IntKind.i64).wrap ((i:Int)+1)=((i+1:Nat):Int) from IntWalk.i64_in _ (by omega))
  rw [EZ hx'] at hw0
  obtain ⟨m',hm',he,hs'⟩:=S4 (r:=x) hm hms (hr x (List.mem_of_getElem? hx'))
  have hw1:whS ((m':Int):Rat) (l.drop (i+1))=S:=by rw [←he];exact hw0
  have e1:i*j+2+j=(i+1)*j+2:=by rw [Nat.succ_mul];omega
  rw [e1] at hs'
  have hs2:RSz js ((m':Int):Rat):=(QH hs' (by omega)).mono (by
   have:=Nat.mul_le_mul_right j (show i+1≤l.length by omega)
   omega)
  have M1:=FP (j:=js) (k:=j) (x:=((m:Int):Rat)) (y:=x) (by omega) (by omega)
  have D1:=Xl (j:=js+j+2) (x:=((m:Int):Rat)*x) (by omega)
  have M2:=FP (j:=js) (k:=js+j+2+2) (x:=((m:Int):Rat)) (y:=A0 (((m:Int):Rat)*x)) (by omega) (by omega)
  repeat (first|refine Af ?_|refine Ac ?_|refine Aa rfl ?_|refine Ab rfl ?_|refine Ak ?_|refine Al ?_|refine Ad ?_|refine Ae ?_)
  refine ⟨b-1,by omega,i+1,m',by omega,by omega,hm',hs',hw1,?_⟩
  exact AS
 ·have bi:=AJ (k:= .i64) (decide_eq_false (show ¬(i:Int)<(l.length:Int) by omega))
  have hmS:((m:Int):Rat)=S:=by
   rw [List.drop_eq_nil_of_le (by omega)] at hw0
   exact hw0
  rw [hmS]
  clear hw0 hms hm I1 hS hmS
  repeat (first|refine Af ?_|refine Ac ?_|refine Aa rfl ?_|refine Ab rfl ?_|refine Ak ?_|refine Al ?_|refine Ad ?_|refine Ae ?_)
  refine AK (fun n σ=> ∃(i:Nat) (cur:List Rat),n=l.length-i∧i≤l.length∧cur=(l.take i).map h++List.replicate (l.length-i) 0∧Wk ⟨W0,base,D,43,[],μ0⟩ σ [(3,.one (.ptr 3 0)),(4,.one (.ptr 4 0)),(7,.one (.gl 26 l.length 3)),(27,.one (Ap j l)),(28,At (l.length:Nat)),(29,At (i:Nat))] [(26,An (nmD J) cur),(3,nmC 2 0),(4,nmC js S)]) (n:=l.length) ⟨0,List.replicate l.length 0,by omega,by omega,by simp,?_⟩ ?_
  ·exact AS
  intro n σ hI
  obtain ⟨i,cur,hn,hi0,hcur,hw⟩:=hI
  refine A5 hw ?_
  clear hw
  have hcl:cur.length=l.length:=by rw [hcur];simp;omega
  by_cases hi:i<l.length
  ·obtain ⟨x,hx,hx'⟩:=FG hi
   have bi:=AJ (k:= .i64) (decide_eq_true (show (i:Int)<(l.length:Int) by omega))
   have hin:=AL (k:= .i64) (show (IntKind.i64).wrap ((i:Int)+1)=((i+1:Nat):Int) from IntWalk.i64_in _ (by omega))
   have hlt:(0:Int)≤((i:Nat):Int)∧((i:Nat):Int)<(l.length:Nat):=by omega
   have hst:((i:Nat):Int).toNat*3+3≤(An (nmD J) cur).length:=by rw [AA (n:=3) inferInstance,hcl,Int.toNat_natCast];omega
   have M3:=FP (j:=js) (k:=j) (x:=S) (y:=x) (by omega) (by omega)
   repeat (first|refine Af ?_|refine Ac ?_|refine Aa rfl ?_|refine Ab rfl ?_|refine Ak ?_|refine Al ?_|refine Ad ?_|refine Ae ?_)
   refine ⟨n-1,by omega,i+1,cur.set i (S*x),by omega,by omega,?_,?_⟩
   ·rw [hcur,show S*x=h x by rw [hh]];exact V6 rfl hx'
   ·exact AS
  ·have bi:=AJ (k:= .i64) (decide_eq_false (show ¬(i:Int)<(l.length:Int) by omega))
   have he:cur=l.map h:=by rw [hcur,List.take_of_length_le (by omega),show l.length-i=0 by omega];simp
   subst he
   repeat (first|refine Af ?_|refine Ac ?_|refine Aa rfl ?_|refine Ab rfl ?_|refine Ak ?_|refine Al ?_|refine Ad ?_|refine Ae ?_)
   refine As (And.intro (Or.inr rfl) (PX ?_ (hE:=by exact Ent.tup rfl (EntT.cons (Ent.one' rfl (Ag.glLen (by simp))) rfl rfl (EntT.cons (Ent.of_eq rfl) rfl rfl EntT.nil)))))
   exact List.forall_mem_cons.2 ⟨.inl (AN inferInstance),Aq⟩
theorem FW {j J n:Nat} {l:List Rat} (hl:l.length=n+1) (hn:n≤60) (hj:j≤100000) (hr: ∀r∈l,RSz j r) (hJ:(n+1)*j+2+j+2≤J):
  Cy Tryz.prog Amb 100 [.one (Ap j l)] [] [(26,An (nmD J) (tab (n+1) fun i=>whS DP l*l.getD i 0))] (.tup [.one (.gl 26 (n+1) 3),nm ((n+1)*j+2) (whS DP l)]):=by
 have h:=V8 (J:=J) (l:=l) (by omega) (by omega) hj hr (by rw [hl];exact hJ)
 have e:(l.map fun r=>whS DP l*r)=tab (n+1) fun i=>whS DP l*l.getD i 0:=by rw [Ww (fun r=>whS DP l*r) 0 l,hl]
 rw [e,Ef,hl] at h
 exact h
end Go.Proofs.YtnkobfcnflphkaaGreatDoor
