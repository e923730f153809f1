/-
  Several texts in one: Za, Au, Zae, Zb, Zc.
-/
import Derived.Test.YtnkobfcnflphkaaGreatDoorEv
import Derived.Test.YtnkobfcnflphkaaGreatDoorHn
import Derived.Test.YtnkobfcnflphkaaGreatDoorHz
import Derived.Test.YtnkobfcnflphkaaGreatDoorDn
namespace Go.Proofs.YtnkobfcnflphkaaGreatDoor
open Nat renaming le_refl→Zj
open List renaming getElem?_eq_getElem→Zk
open Go.RowKit
set_option linter.unusedVariables false
set_option linter.unusedSimpArgs false
section
variable {P:Program} {X:Ctx} {σ:St} {Q:Exit→St→Prop} {tl:List Oper}
end
def FV (σ:St) (k:Nat) (ks:List Nat) (p:Nat×List C):Prop:=(σ.sz p.1=p.2.length∧ ∀(i:Nat) c,p.2[i]?=some c→FzC σ k (σ.m p.1 i) c∧nl c)∧p.2.all (inC ks)=true
theorem FV.of {σ:St} {k:Nat} {ks:List Nat} {p:Nat×List C} (h:DQ σ ks p):FV σ k ks p:=⟨⟨h.1.1,fun i c hc=>⟨.ent (h.1.2 i c hc).1,(h.1.2 i c hc).2⟩⟩,h.2⟩
theorem FV.gl {α:Type} {n:Nat} {f:α→List D} (hf:Elm n f) {σ:St} {k kb len:Nat} {ks:List Nat} {l:List α} (hz:σ.sz k=(An f l).length:=by exact rfl) (hm:ON (σ.m k) (An f l):=by first|exact Fp|exact Es) (hz2:σ.sz kb=1:=by exact rfl) (hm2:σ.m kb 0= .gl k len n:=by exact rfl) (hlen:len=l.length:=by first|rfl|omega):FV σ k ks (kb,[lsG n f l]):=by
 subst hlen
 have h:=JT (f:=f) (l:=l) hf hz hm
 refine ⟨⟨hz2,fun i c hc=>?_⟩,by simp [inC]⟩
 match i,hc with
 | 0,hc=>
   cases hc
   refine ⟨?_,trivial⟩
   show FzC σ k (σ.m kb 0) _
   rw [hm2]
   cases h with
   | one h=>exact h
   | ent h=>exact .ent fun W0 μ sz w x hx=>h W0 μ sz w x hx
theorem UR {X:Ctx} {σ:St} {k:Nat} {ss:List (Nat×AV)} {bs:List (Nat×List C)} (h1: ∀p∈ss,FzA σ k (σ.s p.1) p.2) (h2: ∀p∈bs,FV σ k (bs.map (·.1)) p)
  (hb:((ss.all fun p=>inA (bs.map (·.1)) p.2)&&ndB (bs.map (·.1))&&(X.ps.all fun k=>(bs.map (·.1)).any (Nat.beq k))&&(!X.ps.any (Nat.beq k))&&(bs.all fun p=>!Nat.beq p.1 k))=true):Fk X σ k ss bs:=by
 simp only [Bool.and_eq_true,Bool.not_eq_true'] at hb
 refine ⟨h1,fun p hp=>(h2 p hp).1,hb.1.1.1.1,List.all_eq_true.2 fun p hp=>(h2 p hp).2,Io hb.1.1.1.2,hb.1.1.2,fun hk=>?_,by
  refine List.all_eq_true.2 fun p hp=>?_
  exact List.all_eq_true.1 hb.2 p hp⟩
 have:=List.any_eq_false.1 hb.1.2 k hk
 simp at this
abbrev Cv (j m:Nat) (g:Nat→Rat):C:=Ap j (tab m g)
theorem Rb {j k:Nat} {x y:Rat} (e:x=y) (h:RSz k y):AL (nmC j x) (nmC k y):= .cons (Ag.qe e h) (.cons (Ag.qe e h) (.cons (Ag.qe e h) .nil))
section
variable {P:Program} {X:Ctx} {ops l:List Oper} {σ:St} {K:List Eff→St→Prop} {s:Nat→AV} {z:Nat→Nat}
variable {dst:Option Tmp} {ty:TypeId} {pos:String} {af:Array Edge} {gd:Option (Nat×Bool)}
theorem Pe {P:Program} (w:World) (t e:TypeId) (ie:TypeInfo) (hu:P.underlying t=some (.slice e)) (hie:P.info? e=some ie):
  (Instr.buildSlice t 0 #[]).run P w= .ok (.slice (some ⟨w.heap.size,0,none⟩) 0 0) (w.alloc (.cells #[] e)):=by
 simp [Instr.buildSlice,run_underlying hu,sizeOf,typeInfo,hie,Instr.fill,newRow]
 congr 2
 exact Array.ext (by simp) (fun i h1 h2=>by simp at h2)
theorem O8 {t e:TypeId} {agg:Bool} {n bytes:Nat} {zv:Value} [S:Sle P t e agg n bytes zv] {id:Nat} (hd: ∀t,dst=some t→t<X.n):
  Sim P X ⟨dst,.buildSlice t 0 #[],ty,pos,af,gd⟩ s z ⟨.one (.gl id 0 n),[],[],[]⟩:=by
 refine Sim.of0 fun W=>?_
 replace hd: ∀t,dst=some t→t<(X.at W).n:=hd
 generalize X.at W=X at hd⊢
 intro σ hs hsz _ hal a w hcn K Q hK
 obtain ⟨μ,hcn⟩:=hcn
 obtain ⟨inf,hi,hz,hsize,hby⟩:=S.info
 have hrun:(execOp a.eval ⟨dst,.buildSlice t 0 #[],ty,pos,af,gd⟩).run P w= .ok (.value (.slice (some ⟨w.heap.size,0,none⟩) 0 0)) (w.alloc (.cells #[] e)):=by
  simp [execOp,Pe w t e inf S.hu hi]
 unfold Oper.wp
 rw [hrun]
 have hkp:Kp w (w.alloc (.cells #[] e)):=(Below.refl _ _).alloc (Zj _) _
 refine hK _ _ ⟨μ,?_⟩
 refine CJ (Xn hcn hkp) (d:=dst) hd (v:= .slice (some ⟨w.heap.size,0,none⟩) 0 0) (av:= .one (.gl id 0 n)) ⟨_,0,rfl,Zj _,fun _=>rfl,fun h=>absurd rfl h⟩
theorem G9 {d:Nat} {t e:TypeId} {agg:Bool} {n bytes:Nat} {zv:Value} [S:Sle P t e agg n bytes zv] (hg:gOk ops σ.s gd:=by first|exact trivial|exact rfl) (hd:dB X.n (some d)=true:=by exact rfl)
  (hl:Ai P X ops l (σ.app (some d) ⟨.one (.gl d 0 n),[],[],[]⟩) (fun es σ'=>K (⟨.one (.gl d 0 n),[],[],[]⟩::es) σ')):Ai P X ops (⟨some d,.buildSlice t 0 #[],ty,pos,af,gd⟩::l) σ K:=
 .of (fun _ _ hl=>Run.step hg (O8 (DK hd)) (fun p hp=>by cases hp) CT hl) hl
end
theorem Rq {α:Type} {n:Nat} {f:α→List D} (hf:Elm n f) (ks:List Nat) (l:List α):((An f l).all fun c=>nlB c&&inC ks c)=true:=List.all_eq_true.2 fun c hc=>by
 obtain ⟨d,hd,rfl⟩:=List.mem_map.1 hc
 obtain ⟨a,_,hda⟩:=List.mem_flatMap.1 hd
 rw [List.all_eq_true.1 (hf.nl a) d hda,AB (OY d)]
 rfl
section
variable {P:Program} {X:Ctx} {ops l:List Oper} {σ:St} {K:List Eff→St→Prop} {s:Nat→AV} {z:Nat→Nat}
variable {dst:Option Tmp} {ty:TypeId} {pos:String} {af:Array Edge} {gd:Option (Nat×Bool)}
theorem LM (d:Nat) (t e:TypeId) (a:Option Addr) (l c:Nat) (h:P.underlying t=some (.slice e)) (w:World):(Op.equalIn (d+1) t (.slice a l c) (.slice none 0 0)).run P w= .ok a.isNone w:=by
 cases a<;>simp [Op.equalIn,run_underlying h w]
theorem Pd (t e:TypeId) (a:Option Addr) (l c:Nat) (h:P.underlying t=some (.slice e)) (w:World):(Op.equal t (.slice a l c) (.slice none 0 0)).run P w= .ok a.isNone w:=LM 9999 t e a l c h w
theorem L4 {t e u:TypeId} {x y:Operand} {agg:Bool} {n bytes:Nat} {zv:Value} [S:Sle P t e agg n bytes zv] {α:Type} {f:α→List D} {la:List α} (hx:evC s x= .one (lsG n f la)) (hne:la.flatMap f≠ []) (hy:evC s y= .one (.v (.slice none 0 0))):
  C8 P ⟨dst,.binOp .eql t x y u,ty,pos,af,gd⟩ s (.one (.v (.bool false))):=fun W0 μ sz w ρ hρ=>by
 have h:=hρ x (by simp [Op.operands])
 rw [hx] at h
 have h':=hρ y (by simp [Op.operands])
 rw [hy] at h'
 replace h':ρ y= .slice none 0 0:=h'
 unfold cv cv0 cc dd at h
 obtain ⟨_,ao,cap,hv,_,h3⟩:=h
 obtain ⟨b,off,rfl,_⟩:=h3 hne
 have h3:(Op.equal t (.slice (some ⟨b,off,none⟩) la.length cap) (.slice none 0 0)).run P w= .ok false w:=Pd t e _ _ _ S.hu w
 refine ⟨.bool false,?_,rfl⟩
 have h4:(binOp .eql t (.slice (some ⟨b,off,none⟩) la.length cap) (.slice none 0 0)).run P w= .ok (.bool false) w:=by
  show (do pure (Value.bool (←Op.equal t _ (.slice none 0 0))):Sem Value).run P w=_
  rw [Sem.run_bind,h3]
  rfl
 have h5:(eqGuard .eql t x y (.slice (some ⟨b,off,none⟩) la.length cap) (.slice none 0 0)).run P w= .ok () w:=rfl
 show (do let v←(do eqGuard .eql t x y (ρ x) (ρ y);binOp .eql t (ρ x) (ρ y):Sem Value);pure (Next.value v):Sem Next).run P w=_
 rw [hv,h',Sem.run_bind,Sem.run_bind,h5,Result.andThen_ok,h4]
 rfl
theorem VH {t e u:TypeId} {x y:Operand} {agg:Bool} {n bytes:Nat} {zv:Value} [S:Sle P t e agg n bytes zv] {α:Type} {f:α→List D} {la:List α} (hne:la.flatMap f≠ []) (hg:gOk ops σ.s gd:=by first|exact trivial|exact rfl) (hd:dB X.n dst=true:=by exact rfl) (hx:evC σ.s x= .one (lsG n f la):=by exact rfl) (hy:evC σ.s y= .one (.v (.slice none 0 0)):=by exact rfl)
  (hl:Ai P X ops l (σ.app dst ⟨.one (.v (.bool false)),[],[],[]⟩) (fun es σ'=>K (⟨.one (.v (.bool false)),[],[],[]⟩::es) σ')):Ai P X ops (⟨dst,.binOp .eql t x y u,ty,pos,af,gd⟩::l) σ K:=
 BL (o:=⟨dst,.binOp .eql t x y u,ty,pos,af,gd⟩) hg hd (L4 hx hne hy) hl
end
theorem Yp {j J:Nat} {σ:St} {ks:List Nat} {k:Nat} {l:List Rat} (h:j≤J) (hb:DQ σ ks (k,An (nmD j) l)):DQ σ ks (k,An (nmD J) l):=by
 have hl:(An (nmD J) l).length=(An (nmD j) l).length:=by rw [AA (n:=3) inferInstance,AA (n:=3) inferInstance]
 refine ⟨⟨hb.1.1.trans hl.symm,fun o c hc=>⟨?_,E9 (n:=3) inferInstance _ c (List.mem_of_getElem? hc)⟩⟩,Cu ks l⟩
 have key: ∀(l:List Rat) (o:Nat) (c:C),(An (nmD J) l)[o]?=some c→ ∃d,(An (nmD j) l)[o]?=some d∧Ag d c:=by
  intro l
  induction l with
  | nil=>intro o c h;simp [An] at h
  | cons x l ih=>
    intro o c hc
    match o with
    | 0=>exact ⟨_,rfl,by cases hc;exact Ag.q rfl h⟩
    | 1=>exact ⟨_,rfl,by cases hc;exact Ag.q rfl h⟩
    | 2=>exact ⟨_,rfl,by cases hc;exact Ag.q rfl h⟩
    | o+3=>exact ih o c hc
 obtain ⟨d,hd,he⟩:=key l o c hc
 have h2:=(hb.1.2 o d hd).1
 exact fun W0 μ sz w x hx=>he W0 μ sz w x (h2 W0 μ sz w x hx)
section
variable {P:Program} {X:Ctx} {ops l:List Oper} {σ:St} {K:List Eff→St→Prop}
variable {dst:Option Tmp} {ty:TypeId} {pos:String} {af:Array Edge} {gd:Option (Nat×Bool)}
theorem VA {A:World→Prop} {c:Call} {f:FuncId} {us:List AV} {R:AV} (hcl:BB σ.s c.callee=some (f,[]):=by exact rfl) (has:c.args.toList.map (evC σ.s)=us:=by exact rfl) (hc:Ctr P A f us R:=by assumption) (hA:A X.W0:=by assumption) (hM:Dd A:=by infer_instance) (hF:Fun P f:=by infer_instance) (hg:gOk ops σ.s gd:=by first|exact trivial|exact rfl) (hd:dB X.n dst=true:=by exact rfl)
  (hl:Ai P X ops l (σ.app dst ⟨R,[],[],[]⟩) (fun es σ'=>K (⟨R,[],[],[]⟩::es) σ')):Ai P X ops (⟨dst,.call c,ty,pos,af,gd⟩::l) σ K:=
 Ay hA hc hg hd hcl (B7.of_eq has) hl
theorem OL {A:World→Prop} {c:Call} {f:FuncId} {us caps:List AV} {R:AV} {k1:Nat} {c1:List C} (hcl:BB σ.s c.callee=some (f,caps):=by exact rfl) (has:c.args.toList.map (evC σ.s)++caps=us:=by exact rfl) (hc:BG P A f us [(k1,c1,c1)] R:=by assumption) (hA:A X.W0:=by assumption) (hM:Dd A:=by infer_instance) (hF:Fun P f:=by infer_instance) (hg:gOk ops σ.s gd:=by first|exact trivial|exact rfl) (hd:dB X.n dst=true:=by exact rfl)
  (h1:rdL (σ.m k1) 0 c1.length=c1:=by exact rfl) (hb:((([(k1,c1)]:List (Nat×List C)).all (fun p=>EV σ.sz p.2.length p)&&([]:List (Nat×List C×List C)).all (fun p=>EV σ.sz p.2.2.length (p.1,p.2.1))&&((([(k1,c1)]:List (Nat×List C)).map (·.1)++([]:List (Nat×List C×List C)).map (·.1)).all fun k=>(c.args.toList.map (evC σ.s)++caps).any (E0 k))&&ndB (([(k1,c1)]:List (Nat×List C)).map (·.1))))=true:=by exact rfl)
  (hl:Ai P X ops l (σ.app dst ⟨R,[(k1,0,c1)],[],[]⟩) (fun es σ'=>K (⟨R,[(k1,0,c1)],[],[]⟩::es) σ')):Ai P X ops (⟨dst,.call c,ty,pos,af,gd⟩::l) σ K:=by
 exact Lu hA [(k1,c1)] hc hg hd hcl (B7.of_eq has) (List.forall_mem_cons.2 ⟨h1,Aq⟩) hb hl
theorem OK {A:World→Prop} {c:Call} {f:FuncId} {us caps:List AV} {R:AV} {k1 k2:Nat} {c1 c2:List C} (hcl:BB σ.s c.callee=some (f,caps):=by exact rfl) (has:c.args.toList.map (evC σ.s)++caps=us:=by exact rfl) (hc:BG P A f us [(k1,c1,c1),(k2,c2,c2)] R:=by assumption) (hA:A X.W0:=by assumption) (hM:Dd A:=by infer_instance) (hF:Fun P f:=by infer_instance) (hg:gOk ops σ.s gd:=by first|exact trivial|exact rfl) (hd:dB X.n dst=true:=by exact rfl)
  (h1:rdL (σ.m k1) 0 c1.length=c1:=by exact rfl) (h2:rdL (σ.m k2) 0 c2.length=c2:=by exact rfl) (hb:((([(k1,c1),(k2,c2)]:List (Nat×List C)).all (fun p=>EV σ.sz p.2.length p)&&([]:List (Nat×List C×List C)).all (fun p=>EV σ.sz p.2.2.length (p.1,p.2.1))&&((([(k1,c1),(k2,c2)]:List (Nat×List C)).map (·.1)++([]:List (Nat×List C×List C)).map (·.1)).all fun k=>(c.args.toList.map (evC σ.s)++caps).any (E0 k))&&ndB (([(k1,c1),(k2,c2)]:List (Nat×List C)).map (·.1))))=true:=by exact rfl)
  (hl:Ai P X ops l (σ.app dst ⟨R,[(k1,0,c1),(k2,0,c2)],[],[]⟩) (fun es σ'=>K (⟨R,[(k1,0,c1),(k2,0,c2)],[],[]⟩::es) σ')):Ai P X ops (⟨dst,.call c,ty,pos,af,gd⟩::l) σ K:=
 Lu hA [(k1,c1),(k2,c2)] hc hg hd hcl (B7.of_eq has) (List.forall_mem_cons.2 ⟨h1,List.forall_mem_cons.2 ⟨h2,Aq⟩⟩) hb hl
theorem OJ {A:World→Prop} {c:Call} {f:FuncId} {us caps:List AV} {R:AV} {k1 k2 k3:Nat} {c1 c2 c3:List C} (hcl:BB σ.s c.callee=some (f,caps):=by exact rfl) (has:c.args.toList.map (evC σ.s)++caps=us:=by exact rfl) (hc:BG P A f us [(k1,c1,c1),(k2,c2,c2),(k3,c3,c3)] R:=by assumption) (hA:A X.W0:=by assumption) (hM:Dd A:=by infer_instance) (hF:Fun P f:=by infer_instance) (hg:gOk ops σ.s gd:=by first|exact trivial|exact rfl) (hd:dB X.n dst=true:=by exact rfl)
  (h1:rdL (σ.m k1) 0 c1.length=c1:=by exact rfl) (h2:rdL (σ.m k2) 0 c2.length=c2:=by exact rfl) (h3:rdL (σ.m k3) 0 c3.length=c3:=by exact rfl) (hb:((([(k1,c1),(k2,c2),(k3,c3)]:List (Nat×List C)).all (fun p=>EV σ.sz p.2.length p)&&([]:List (Nat×List C×List C)).all (fun p=>EV σ.sz p.2.2.length (p.1,p.2.1))&&((([(k1,c1),(k2,c2),(k3,c3)]:List (Nat×List C)).map (·.1)++([]:List (Nat×List C×List C)).map (·.1)).all fun k=>(c.args.toList.map (evC σ.s)++caps).any (E0 k))&&ndB (([(k1,c1),(k2,c2),(k3,c3)]:List (Nat×List C)).map (·.1))))=true:=by exact rfl)
  (hl:Ai P X ops l (σ.app dst ⟨R,[(k1,0,c1),(k2,0,c2),(k3,0,c3)],[],[]⟩) (fun es σ'=>K (⟨R,[(k1,0,c1),(k2,0,c2),(k3,0,c3)],[],[]⟩::es) σ')):Ai P X ops (⟨dst,.call c,ty,pos,af,gd⟩::l) σ K:=
 Lu hA [(k1,c1),(k2,c2),(k3,c3)] hc hg hd hcl (B7.of_eq has) (List.forall_mem_cons.2 ⟨h1,List.forall_mem_cons.2 ⟨h2,List.forall_mem_cons.2 ⟨h3,Aq⟩⟩⟩) hb hl
theorem RF {A:World→Prop} {c:Call} {f:FuncId} {us caps:List AV} {k:Nat} {b d:List C} {R:AV} (hcl:BB σ.s c.callee=some (f,caps):=by exact rfl) (has:c.args.toList.map (evC σ.s)++caps=us:=by exact rfl) (hc:BG P A f us [(k,b,d)] R:=by assumption) (hA:A X.W0:=by assumption) (hM:Dd A:=by infer_instance) (hF:Fun P f:=by infer_instance) (hg:gOk ops σ.s gd:=by first|exact trivial|exact rfl) (hd:dB X.n dst=true:=by exact rfl) (hrw:rdL (σ.m k) 0 b.length=b:=by exact rfl)
  (hb:((([]:List (Nat×List C)).all (fun p=>EV σ.sz p.2.length p)&& [(k,b,d)].all (fun p=>EV σ.sz p.2.2.length (p.1,p.2.1))&&((([]:List (Nat×List C)).map (·.1)++ [(k,b,d)].map (·.1)).all fun k=>(c.args.toList.map (evC σ.s)++caps).any (La k)))=true):=by exact rfl)
  (hl:Ai P X ops l (σ.app dst ⟨R,[(k,0,b)],[(k,0,d)],[]⟩) (fun es σ'=>K (⟨R,[(k,0,b)],[(k,0,d)],[]⟩::es) σ')):Ai P X ops (⟨dst,.call c,ty,pos,af,gd⟩::l) σ K:=
 DD hA hc hg hd hcl (B7.of_eq has) hrw hb hl
theorem RE {A:World→Prop} {c:Call} {f:FuncId} {us:List AV} {cs:List C} {d:Nat} (hcl:BB σ.s c.callee=some (f,[]):=by exact rfl) (has:c.args.toList.map (evC σ.s)=us:=by exact rfl) (hc:VE P A f us cs:=by assumption) (hA:A X.W0:=by assumption) (hM:Dd A:=by infer_instance) (hF:Fun P f:=by infer_instance) (hg:gOk ops σ.s gd:=by first|exact trivial|exact rfl) (hd:dB X.n (some d)=true:=by exact rfl) (hf:(Nat.beq (σ.sz d) 0&&!cs.isEmpty)=true:=by exact rfl)
  (hl:Ai P X ops l (σ.app (some d) ⟨.one (.ptr d 0),[],[],[(d,cs)]⟩) (fun es σ'=>K (⟨.one (.ptr d 0),[],[],[(d,cs)]⟩::es) σ')):Ai P X ops (⟨some d,.call c,ty,pos,af,gd⟩::l) σ K:=
 Lv hA hc hg hd hf hcl (B7.of_eq has) hl
theorem RD {A:World→Prop} {c:Call} {f:FuncId} {us:List AV} {k len n:Nat} {b d:List C} {R:AV} (hcl:BB σ.s c.callee=some (f,[]):=by exact rfl) (has:c.args.toList.map (evC σ.s)=us:=by exact rfl) (hc:BG P A f us [(k,b,d)] R:=by assumption) (hA:A X.W0:=by assumption) (hM:Dd A:=by infer_instance) (hF:Fun P f:=by infer_instance) (hg:gOk ops σ.s gd:=by first|exact trivial|exact rfl) (hd:dB X.n dst=true:=by exact rfl)
  (hm1:c.args.toList.map (evC σ.s)= .one (.gl k len n)::us.tail:=by exact rfl) (hz:σ.sz k=b.length:=by exact rfl) (hm:ON (σ.m k) b:=by first|exact Fp|exact Es) (hlen:0<len:=by omega) (hbd:b.length=d.length:=by assumption) (hb0:0<b.length:=by assumption)
  (hl:Ai P X ops l (σ.app dst ⟨R,[(k,0,b)],[(k,0,d)],[]⟩) (fun es σ'=>K (⟨R,[(k,0,b)],[(k,0,d)],[]⟩::es) σ')):Ai P X ops (⟨dst,.call c,ty,pos,af,gd⟩::l) σ K:=
 VI hA hc ⟨hlen,hbd,hb0⟩ hg hd hcl (B7.of_eq has) hm1 hz hm hl
theorem OI {A:World→Prop} {c:Call} {f:FuncId} {us caps:List AV} {k:Nat} {cs:List C} {R:AV} (hcl:BB σ.s c.callee=some (f,caps):=by exact rfl) (has:c.args.toList.map (evC σ.s)++caps=us:=by exact rfl) (hc:CF P A f us [] [(k,cs)] R:=by assumption) (hA:A X.W0:=by assumption) (hM:Dd A:=by infer_instance) (hF:Fun P f:=by infer_instance) (hg:gOk ops σ.s gd:=by first|exact trivial|exact rfl) (hd:dB X.n dst=true:=by exact rfl)
  (hne:0<cs.length:=by assumption) (hb:Nat.beq (σ.sz k) 0=true:=by exact rfl)
  (hl:Ai P X ops l (σ.app dst ⟨R,[],[],[(k,cs)]⟩) (fun es σ'=>K (⟨R,[],[],[(k,cs)]⟩::es) σ')):Ai P X ops (⟨dst,.call c,ty,pos,af,gd⟩::l) σ K:=
 MR hA [] hc hne hg hd hcl (B7.of_eq has) Aq (by simp [ndB,hb]) hl
theorem Xu {α:Type} {f:α→List D} {la:List α} {b:α} {t e:TypeId} {x y:Operand} {agg:Bool} {n bytes:Nat} {zv:Value} [S:Sle P t e agg n bytes zv] {ik:IntKind} {i:Int} (hx:evC σ.s x= .one (lsG n f la):=by exact rfl) (hy:evC σ.s y= .one (.v (.int ik i)):=by exact rfl) (ha:la[i.toNat]?=some b:=by assumption) (h0:0≤i:=by omega) (hg:gOk ops σ.s gd:=by first|exact trivial|exact rfl) (hd:dB X.n dst=true:=by exact rfl) (hf: ∀a,(f a).length=n:=by intro _;rfl)
  (hl:Ai P X ops l (σ.app dst ⟨.one (.fp (f b)),[],[],[]⟩) (fun es σ'=>K (⟨.one (.fp (f b)),[],[],[]⟩::es) σ')):Ai P X ops (⟨dst,.indexAddr t x y,ty,pos,af,gd⟩::l) σ K:=G8 ha h0 hg hd hx hy hf hl
theorem Vz {t e:TypeId} {x y:Operand} {agg:Bool} {n bytes:Nat} {zv:Value} [S:Sle P t e agg n bytes zv] {k len:Nat} {ik:IntKind} {i:Int} (hx:evC σ.s x= .one (.gl k len n):=by exact rfl) (hy:evC σ.s y= .one (.v (.int ik i)):=by exact rfl) (hi:0≤i∧i<len:=by first|assumption|exact ⟨by omega,by omega⟩) (hg:gOk ops σ.s gd:=by first|exact trivial|exact rfl) (hd:dB X.n dst=true:=by exact rfl)
  (hl:Ai P X ops l (σ.app dst ⟨.one (.ptr k (i.toNat*n)),[],[],[]⟩) (fun es σ'=>K (⟨.one (.ptr k (i.toNat*n)),[],[],[]⟩::es) σ')):Ai P X ops (⟨dst,.indexAddr t x y,ty,pos,af,gd⟩::l) σ K:=Lt hi hg hd hx hy hl
theorem Rz {t:TypeId} {x:Operand} {agg:Bool} {n:Nat} [hT:Tsz P t agg n] {k m:Nat} {i:Int} {cs:List C} (hx:evC σ.s x= .one (.ptr k (i.toNat*m)):=by exact rfl) (hm:rdL (σ.m k) (i.toNat*m) n=cs:=by assumption) (hz:i.toNat*m+n≤σ.sz k:=by assumption) (hg:gOk ops σ.s gd:=by first|exact trivial|exact rfl) (hd:dB X.n dst=true:=by exact rfl) (hc:(Nat.blt 0 n&&(agg || Nat.beq n 1))=true:=by exact rfl)
  (hl:Ai P X ops l (σ.app dst ⟨mkA agg cs,[(k,i.toNat*m,cs)],[],[]⟩) (fun es σ'=>K (⟨mkA agg cs,[(k,i.toNat*m,cs)],[],[]⟩::es) σ')):Ai P X ops (⟨dst,.load t x,ty,pos,af,gd⟩::l) σ K:=I0 hz hm hg hd hx hc hl
theorem OH {t:TypeId} {x y:Operand} {agg:Bool} {n:Nat} [hT:Tsz P t agg n] {k m:Nat} {i:Int} {av:AV} (hx:evC σ.s x= .one (.ptr k (i.toNat*m)):=by exact rfl) (hz:i.toNat*m+n≤σ.sz k:=by assumption) (hg:gOk ops σ.s gd:=by first|exact trivial|exact rfl) (hd:dB X.n dst=true:=by exact rfl) (hy:evC σ.s y=av:=by exact rfl) (hc:(Nat.beq (Av av).length n&&(Dj av || Nat.beq n 1)&&Nat.blt 0 n&&(Av av).all nlB)=true:=by exact rfl)
  (hl:Ai P X ops l (σ.app dst ⟨.junk,[],[(k,i.toNat*m,Av av)],[]⟩) (fun es σ'=>K (⟨.junk,[],[(k,i.toNat*m,Av av)],[]⟩::es) σ')):Ai P X ops (⟨dst,.store t x y,ty,pos,af,gd⟩::l) σ K:=Tc hz hg hd hx hy hc hl
theorem Vy {d:Nat} {t e:TypeId} {lo co:Operand} {agg:Bool} {n bytes:Nat} {zv:Value} [S:Sle P t e agg n bytes zv] {kl kc:IntKind} {cap:Nat} (hx:evC σ.s lo= .one (.v (.int kl (cap:Nat))):=by exact rfl) (hy:evC σ.s co= .one (.v (.int kc (cap:Nat))):=by exact rfl) (hp:0<cap:=by omega) (hb:bytes*cap≤281474976710656:=by omega) (hb2:cap≤9223372036854775807:=by omega) (hg:gOk ops σ.s gd:=by first|exact trivial|exact rfl) (hd:dB X.n (some d)=true:=by exact rfl) (hf:Nat.beq (σ.sz d) 0=true:=by exact rfl)
  (hl:Ai P X ops l (σ.app (some d) ⟨.one (.gl d cap n),[],[],[(d,BR cap zv.cells.toList)]⟩) (fun es σ'=>K (⟨.one (.gl d cap n),[],[],[(d,BR cap zv.cells.toList)]⟩::es) σ')):Ai P X ops (⟨some d,.makeSlice t lo co,ty,pos,af,gd⟩::l) σ K:=Tf hp hb hb2 hg hd hx hy hf hl
theorem RC {t e u:TypeId} {x y:Operand} {agg:Bool} {n bytes:Nat} {zv:Value} [S:Sle P t e agg n bytes zv] {α:Type} {f:α→List D} {la:List α} (hx:evC σ.s x= .one (lsG n f la):=by exact rfl) (hne:la.flatMap f≠ []:=by assumption) (hg:gOk ops σ.s gd:=by first|exact trivial|exact rfl) (hd:dB X.n dst=true:=by exact rfl) (hy:evC σ.s y= .one (.v (.slice none 0 0)):=by exact rfl)
  (hl:Ai P X ops l (σ.app dst ⟨.one (.v (.bool false)),[],[],[]⟩) (fun es σ'=>K (⟨.one (.v (.bool false)),[],[],[]⟩::es) σ')):Ai P X ops (⟨dst,.binOp .eql t x y u,ty,pos,af,gd⟩::l) σ K:=VH hne hg hd hx hy hl
end
section
variable {P:Program} {X:Ctx} {σ σ':St} {Q:Exit→St→Prop} {id:Nat} {L:List Oper} {es:List Eff}
theorem Ak (hq:Q .normal σ') (hn:(L.all fun o=>match o.dst with|some t=>Nat.blt t X.n|none=>true)=true:=by kernel_rfl) (hr:Ai P X L L σ (fun e s=>e=es∧s=σ'):=by ((repeat (first|refine Rz (hl:=?_)|refine OH (hl:=?_)|refine BP (hl:=?_)|refine DR (hl:=?_)|refine A0 (hl:=?_)|refine AC (hl:=?_)|refine BW (hl:=?_)|refine C9 (hl:=?_)|refine GF (hl:=?_)|refine EW (hl:=?_)|refine Da (hl:=?_)|refine Db (hl:=?_)|refine Dg (hl:=?_)|refine B8 (hl:=?_)|refine Qw (hl:=?_)|refine Qv (hl:=?_)|refine FC (hl:=?_)|refine FY (hl:=?_)|refine De (hl:=?_)|refine Df (hl:=?_)|refine IC (hl:=?_)|refine Eh (hl:=?_)|refine If (hl:=?_)|refine Cz (hl:=?_)|refine CL (hl:=?_)|refine Kw (hl:=?_)|refine Te (hl:=?_)|refine Cy (hl:=?_)|refine Cx (hl:=?_)|refine Cm (hl:=?_)|refine Cb (hl:=?_)|refine MO (hl:=?_)|refine Ci (hl:=?_)|refine G9 (hl:=?_)|refine AP (hl:=?_)|refine VA (hl:=?_)|refine OL (hl:=?_)|refine OK (hl:=?_)|refine OJ (hl:=?_)|refine RF (hl:=?_)|refine RE (hl:=?_)|refine RD (hl:=?_)|refine OI (hl:=?_)|refine Xu (hl:=?_)|refine Vz (hl:=?_)|refine Vy (hl:=?_)|refine RC (hl:=?_)));exact Ai.nil ⟨rfl,rfl⟩)):Aw P X (.region id L.toArray false) σ Q:=by
 obtain ⟨e,s,h1,rfl,rfl⟩:=hr
 exact OE hn h1 hq
theorem Al (hq:Q .normal σ') (hm:P.follows .mixedOrders=true:=by kernel_rfl) (hd:Ot L=true:=by kernel_rfl) (hn:(L.all fun o=>match o.dst with|some t=>Nat.blt t X.n|none=>true)=true:=by kernel_rfl) (hr:Ai P X L L σ (fun e s=>e=es∧s=σ'):=by ((repeat (first|refine Rz (hl:=?_)|refine OH (hl:=?_)|refine BP (hl:=?_)|refine DR (hl:=?_)|refine A0 (hl:=?_)|refine AC (hl:=?_)|refine BW (hl:=?_)|refine C9 (hl:=?_)|refine GF (hl:=?_)|refine EW (hl:=?_)|refine Da (hl:=?_)|refine Db (hl:=?_)|refine Dg (hl:=?_)|refine B8 (hl:=?_)|refine Qw (hl:=?_)|refine Qv (hl:=?_)|refine FC (hl:=?_)|refine FY (hl:=?_)|refine De (hl:=?_)|refine Df (hl:=?_)|refine IC (hl:=?_)|refine Eh (hl:=?_)|refine If (hl:=?_)|refine Cz (hl:=?_)|refine CL (hl:=?_)|refine Kw (hl:=?_)|refine Te (hl:=?_)|refine Cy (hl:=?_)|refine Cx (hl:=?_)|refine Cm (hl:=?_)|refine Cb (hl:=?_)|refine MO (hl:=?_)|refine Ci (hl:=?_)|refine G9 (hl:=?_)|refine AP (hl:=?_)|refine VA (hl:=?_)|refine OL (hl:=?_)|refine OK (hl:=?_)|refine OJ (hl:=?_)|refine RF (hl:=?_)|refine RE (hl:=?_)|refine RD (hl:=?_)|refine OI (hl:=?_)|refine Xu (hl:=?_)|refine Vz (hl:=?_)|refine Vy (hl:=?_)|refine RC (hl:=?_)));exact Ai.nil ⟨rfl,rfl⟩)) (hc:chk L es=true:=by kernel_rfl):Aw P X (.region id L.toArray true) σ Q:=by
 obtain ⟨e,s,h1,rfl,rfl⟩:=hr
 exact Rt hm hd hn h1 hc hq
theorem AT {ss:List (Nat×AV)} {bs:List (Nat×List C)} (h1: ∀p∈ss,Ent (σ.s p.1) p.2:=by (repeat (first|exact Aq|(refine List.forall_mem_cons.2 ⟨?_,?_⟩;focus (first|exact Ent.of_eq rfl|(refine Ent.one' rfl ?_;(first|exact Ag.qs (by assumption)|exact Ag.ratsLe (by omega)|exact Ag.ratsNil|exact Ag.glNil|(refine Ag.int ?_;omega)|(refine Ag.glLen ?_;first|omega|simp)|exact Ag.of_eq rfl|(refine Ag.q rfl ?_;omega)|exact Ag.qe (by assumption) (by assumption)|exact Z0 _|exact Z2 _|exact Ag.z0 (k:=0)|exact Ag.z1 (k:=0)|exact Ag.z2 (k:=0)|exact Ag.z0|exact Ag.z1|exact Ag.z2))|(refine Ent.agg' rfl ?_;(repeat (first|exact AL.nil' rfl|(refine AL.cons' rfl ?_ ?_;focus (first|exact Ag.qs (by assumption)|exact Ag.ratsLe (by omega)|exact Ag.ratsNil|exact Ag.glNil|(refine Ag.int ?_;omega)|(refine Ag.glLen ?_;first|omega|simp)|exact Ag.of_eq rfl|(refine Ag.q rfl ?_;omega)|exact Ag.qe (by assumption) (by assumption)|exact Z0 _|exact Z2 _|exact Ag.z0 (k:=0)|exact Ag.z1 (k:=0)|exact Ag.z2 (k:=0)|exact Ag.z0|exact Ag.z1|exact Ag.z2))));(first|done|fail))))))) (h2: ∀p∈bs,DQ σ (bs.map (·.1)) p:=by (repeat (first|exact Aq|(refine List.forall_mem_cons.2 ⟨?_,?_⟩;focus (first|exact AO inferInstance|(refine GB inferInstance (by omega) ?_;(repeat (first|exact AL.nil' rfl|(refine AL.cons' rfl ?_ ?_;focus (first|exact Ag.qs (by assumption)|exact Ag.ratsLe (by omega)|exact Ag.ratsNil|exact Ag.glNil|(refine Ag.int ?_;omega)|(refine Ag.glLen ?_;first|omega|simp)|exact Ag.of_eq rfl|(refine Ag.q rfl ?_;omega)|exact Ag.qe (by assumption) (by assumption)|exact Z0 _|exact Z2 _|exact Ag.z0 (k:=0)|exact Ag.z1 (k:=0)|exact Ag.z2 (k:=0)|exact Ag.z0|exact Ag.z1|exact Ag.z2))));(first|done|fail))|(refine EC inferInstance ?_;(repeat (first|exact AL.nil' rfl|(refine AL.cons' rfl ?_ ?_;focus (first|exact Ag.qs (by assumption)|exact Ag.ratsLe (by omega)|exact Ag.ratsNil|exact Ag.glNil|(refine Ag.int ?_;omega)|(refine Ag.glLen ?_;first|omega|simp)|exact Ag.of_eq rfl|(refine Ag.q rfl ?_;omega)|exact Ag.qe (by assumption) (by assumption)|exact Z0 _|exact Z2 _|exact Ag.z0 (k:=0)|exact Ag.z1 (k:=0)|exact Ag.z2 (k:=0)|exact Ag.z0|exact Ag.z1|exact Ag.z2))));(first|done|fail))|(refine W3 inferInstance ?_;(repeat (first|exact AL.nil' rfl|(refine AL.cons' rfl ?_ ?_;focus (first|exact Ag.qs (by assumption)|exact Ag.ratsLe (by omega)|exact Ag.ratsNil|exact Ag.glNil|(refine Ag.int ?_;omega)|(refine Ag.glLen ?_;first|omega|simp)|exact Ag.of_eq rfl|(refine Ag.q rfl ?_;omega)|exact Ag.qe (by assumption) (by assumption)|exact Z0 _|exact Z2 _|exact Ag.z0 (k:=0)|exact Ag.z1 (k:=0)|exact Ag.z2 (k:=0)|exact Ag.z0|exact Ag.z1|exact Ag.z2))));(first|done|fail))|exact Kf (la:= []) inferInstance|(refine BC rfl ?_ rfl;(repeat (first|exact AL.nil' rfl|(refine AL.cons' rfl ?_ ?_;focus (first|exact Ag.qs (by assumption)|exact Ag.ratsLe (by omega)|exact Ag.ratsNil|exact Ag.glNil|(refine Ag.int ?_;omega)|(refine Ag.glLen ?_;first|omega|simp)|exact Ag.of_eq rfl|(refine Ag.q rfl ?_;omega)|exact Ag.qe (by assumption) (by assumption)|exact Z0 _|exact Z2 _|exact Ag.z0 (k:=0)|exact Ag.z1 (k:=0)|exact Ag.z2 (k:=0)|exact Ag.z0|exact Ag.z1|exact Ag.z2))));(first|done|fail)))))))
  (hb:((ss.all fun p=>inA (bs.map (·.1)) p.2)&&ndB (bs.map (·.1))&&(X.ps.all fun k=>(bs.map (·.1)).any (Nat.beq k)))=true:=by exact rfl):Wk X σ ss bs:=Dv h1 h2 hb
theorem UW {c d:C} (h:Ag c d:=by (first|exact Ag.ratsLe (by omega)|exact Ag.ratsNil|exact Ag.glNil|(refine Ag.int ?_;omega)|(refine Ag.glLen ?_;first|omega|simp)|exact Ag.of_eq rfl|(refine Ag.q rfl ?_;omega)|exact Z0 _|exact Z2 _|exact Ag.z0 (k:=0)|exact Ag.z1 (k:=0)|exact Ag.z2 (k:=0)|exact Ag.z0|exact Ag.z1|exact Ag.z2)):Ag c d:=h
theorem FN {c d:C} (h:Ag c d:=by (first|exact Ag.ratsLe (by omega)|exact Ag.ratsNil|exact Ag.glNil|(refine Ag.int ?_;omega)|(refine Ag.glLen ?_;first|omega|simp))):Ag c d:=h
theorem EO {c d:C} (h:Ag c d:=by (first|exact Ag.of_eq rfl|(refine Ag.q rfl ?_;omega)|exact Z0 _|exact Z2 _|exact Ag.z0 (k:=0)|exact Ag.z1 (k:=0)|exact Ag.z2 (k:=0)|exact Ag.z0|exact Ag.z1|exact Ag.z2)):Ag c d:=h
theorem BS {l m:List C} (h:AL l m:=by ((repeat (first|exact AL.nil' rfl|(refine AL.cons' rfl ?_ ?_;focus (exact UW))));(first|done|fail))):AL l m:=h
theorem UX {a b:AV} (h:Ent a b:=by (first|exact Ent.of_eq rfl|(refine Ent.one' rfl ?_;exact UW)|(refine Ent.agg' rfl ?_;exact BS))):Ent a b:=h
theorem G6 {ss:List (Nat×AV)} (h: ∀p∈ss,Ent (σ.s p.1) p.2:=by (repeat (first|exact Aq|(refine List.forall_mem_cons.2 ⟨?_,?_⟩;focus (exact UX))))): ∀p∈ss,Ent (σ.s p.1) p.2:=h
theorem It {k:Nat} {ss:List (Nat×AV)} {bs:List (Nat×List C)} (h1: ∀p∈ss,FzA σ k (σ.s p.1) p.2:=by (repeat (first|exact Aq|(refine List.forall_mem_cons.2 ⟨?_,?_⟩;focus (first|exact JT inferInstance|(refine FzA.ent ?_;exact UX))))))
  (h2: ∀p∈bs,DQ σ (bs.map (·.1)) p:=by (repeat (first|exact Aq|(refine List.forall_mem_cons.2 ⟨?_,?_⟩;focus (first|exact AO inferInstance|(refine BC rfl ?_ rfl;exact BS))))))
  (hb:((ss.all fun p=>inA (bs.map (·.1)) p.2)&&ndB (bs.map (·.1))&&(X.ps.all fun k=>(bs.map (·.1)).any (Nat.beq k))&&(!X.ps.any (Nat.beq k))&&(bs.all fun p=>!Nat.beq p.1 k))=true:=by exact rfl):Fk X σ k ss bs:=US h1 h2 hb
theorem UQ {k:Nat} {ss:List (Nat×AV)} {bs:List (Nat×List C)} (h1: ∀p∈ss,FzA σ k (σ.s p.1) p.2:=by (repeat (first|exact Aq|(refine List.forall_mem_cons.2 ⟨?_,?_⟩;focus (first|exact JT inferInstance|(refine FzA.ent ?_;exact UX))))))
  (h2: ∀p∈bs,FV σ k (bs.map (·.1)) p:=by (repeat (first|exact Aq|(refine List.forall_mem_cons.2 ⟨?_,?_⟩;focus (first|exact FV.gl inferInstance|(refine FV.of ?_;first|exact AO inferInstance|(refine BC rfl ?_ rfl;exact BS)))))))
  (hb:((ss.all fun p=>inA (bs.map (·.1)) p.2)&&ndB (bs.map (·.1))&&(X.ps.all fun k=>(bs.map (·.1)).any (Nat.beq k))&&(!X.ps.any (Nat.beq k))&&(bs.all fun p=>!Nat.beq p.1 k))=true:=by exact rfl):Fk X σ k ss bs:=UR h1 h2 hb
end
theorem YT {X:Ctx} {μ:Nat→Nat×Nat} {σ:St} {a:Act} {w w' W':World} (h:Cn X μ σ a w) (k:Kp w w') (hE:Ext X.W0 W') (hF:Fr W' w') (hnew: ∀g,alive W' g→alive X.W0 g∨w.heap.size≤g):IX X W'∧Cn (X.at W') μ σ a w':=by
 have kl:=Kl.of_kp k
 have ext: ∀i,σ.sz i≠0→μ i=μ i∧σ.sz i≠0:=fun i hi=>⟨rfl,hi⟩
 refine ⟨⟨hE,fun g hg=>(hnew g hg).imp_right fun h1=>Nat.le_trans h.kd.size h1⟩,hF,h.kd.trans (.of_kp k),h.defers,h.size,fun t=>(h.slot t).mono kl ext hE,fun i hi=>?_,h.inj,fun i hi=>⟨fun ha=>?_,(h.own i hi).2⟩,h.par⟩
 ·obtain ⟨cs,e,h1,h2,h4,h3⟩:=h.blk i hi
  exact ⟨cs,e,by rw [k.block _ (Array.getElem?_eq_some_iff.1 h1).1];exact h1,h2,h4,fun o x hx=>EB (h3 o x hx) kl ext hE⟩
 ·rcases hnew _ ha with h1|h1
  ·exact (h.own i hi).1 h1
  ·obtain ⟨cs,e,h2,_⟩:=h.blk i hi
   have:=(Array.getElem?_eq_some_iff.1 h2).1
   omega
section
variable {P:Program} {X:Ctx} {ops l:List Oper} {σ:St} {K:List Eff→St→Prop} {s:Nat→AV} {z:Nat→Nat}
variable {dst:Option Tmp} {ty:TypeId} {pos:String} {af:Array Edge} {gd:Option (Nat×Bool)}
theorem Nl {α:Type} {f:α→List D} {la:List α} {t e:TypeId} {parts:Array (Nat×Operand)} {agg:Bool} {n bytes:Nat} {zv:Value} (hEl:Elm n f) [S:Sle P t e agg n bytes zv] {len:Nat} {ps:List (Nat×AV)} {cs:List C} (hlen:la.length=len) (hd: ∀t,dst=some t→t<X.n) (hps:parts.toList.map (fun p=>(p.1,evC s p.2))=ps)
  (hnl:(ps.all fun p=>(Av p.2).all nlB)=true) (hf:DO (fun i=>some (i*n,n)) (BR len zv.cells.toList) ps=some cs) (hnl2:cs.all nlB=true) (hb:Nat.ble (len*n) 16777216=true) (hp:Nat.blt 0 len=true) (hE:AL cs (An f la)):
  Sim P X ⟨dst,.buildSlice t len parts,ty,pos,af,gd⟩ s z ⟨.one (lsG n f la),[],[],[]⟩:=by
 refine Sim.of1 fun W hW=>?_
 clear hW
 replace hd: ∀t,dst=some t→t<(X.at W).n:=hd
 generalize X.at W=X at hd⊢
 intro σ hs hsz _ hal a w hcn K Q hK
 obtain ⟨μ,hcn⟩:=hcn
 obtain ⟨inf,hi,hz,hsize,hby⟩:=S.info
 have hb:=Nat.le_of_ble_eq_true hb
 have hp:0<len:=by simpa using hp
 have hzs:=S.size
 have hpos:=S.pos
 obtain ⟨ol,rfl⟩: ∃ol:List (Nat×Operand),parts=ol.toArray:=⟨parts.toList,by simp⟩
 have hρ': ∀p∈ol,cv X.W0 μ σ.sz w (a.eval p.2) (evC s p.2):=fun p hpm=>by
  have h1:=hcn.ev p.2
  exact DW (o:=⟨dst,.buildSlice t len ol.toArray,ty,pos,af,gd⟩) hs (by simp [Op.operands];exact ⟨p.1,hpm⟩) h1
 simp only at hps
 subst hps
 have hz0:Ca (cc X.W0 μ σ.sz w) (madeCells zv.cells (len*n)).toList (BR len zv.cells.toList):=by
  have:=FW (W0:=X.W0) (μ:=μ) (sz:=σ.sz) (w:=w) (z:=zv.cells) (by omega) len
  rw [hzs] at this
  exact this
 obtain ⟨a',h1,h2⟩:=I9 (W0:=X.W0) (μ:=μ) (sz:=σ.sz) (w:=w) (vs:=ol.map fun p=>(p.1,a.eval p.2)) (by simp) (fun i p q hp hq=>by
  simp only [List.getElem?_map,Option.map_eq_some_iff] at hp hq
  obtain ⟨x,hx,rfl⟩:=hp
  obtain ⟨y,hy,rfl⟩:=hq
  rw [hx] at hy
  cases hy
  refine ⟨rfl,hρ' x (List.mem_of_getElem? hx),fun c hc=>Ed ?_⟩
  have:=List.all_eq_true.1 hnl (x.1,evC s x.2) (List.mem_map.2 ⟨x,List.mem_of_getElem? hx,rfl⟩)
  exact List.all_eq_true.1 this c hc) hz0 hf
 have hr:=run_buildSlice (P:=P) w t e len ((ol.map fun p=>(p.1,a.eval p.2)).toArray) a' inf zv S.hu hi hz (by rw [hsize];omega) (by rw [hsize];have:=Nat.mul_pos hp hpos;omega) (by
  rw [hsize]
  simpa [madeCells] using h1)
 have hrun:(execOp a.eval ⟨dst,.buildSlice t len ol.toArray,ty,pos,af,gd⟩).run P w= .ok (.value (.slice (some ⟨w.heap.size,0,none⟩) len len)) (w.alloc (.cells a' e)):=by
  simp only [execOp]
  rw [show (ol.toArray.map fun x=>match x with|(i,x)=>(i,a.eval x))=(ol.map fun p=>(p.1,a.eval p.2)).toArray by simp]
  simp [hr]
 unfold Oper.wp
 rw [hrun]
 have hkp:Kp w (w.alloc (.cells a' e)):=(Below.refl _ _).alloc (Zj _) _
 have hnl': ∀c∈cs,nl c:=fun c hc=>Ed (List.all_eq_true.1 hnl2 c hc)
 have hna: ¬alive X.W0 w.heap.size:=fun ha=>by
  have h3:=hcn.w0 _ ha
  obtain ⟨c,e',fz,h4,_⟩:=ha
  rw [h4] at h3
  have:=(Array.getElem?_eq_some_iff.1 h3).1
  omega
 have hnw:=heap_alloc_new w (.cells a' e)
 obtain ⟨W',hW'⟩: ∃W',W'=frz X.W0 w.heap.size (.cells a' e (0,0)):=⟨_,rfl⟩
 have hE':Ext X.W0 W':=by rw [hW'];exact Ml _ hna
 have hat:W'.heap[w.heap.size]?=some (.cells a' e (0,0)):=by rw [hW'];exact JU _ _ _
 have hF:Fr W' (w.alloc (.cells a' e)):=fun g hg=>by
  by_cases hgk:g=w.heap.size
  ·subst hgk;rw [hat];exact hnw
  ·have h3:alive X.W0 g:=by
    rw [hW'] at hg
    rcases EA hg with h4|h4
    ·exact absurd h4 hgk
    ·exact h4
   have h4:=hcn.w0 _ h3
   have h5:g<w.heap.size:=by
    obtain ⟨c,e',fz,h6,_⟩:=h3
    rw [h6] at h4
    exact (Array.getElem?_eq_some_iff.1 h4).1
   rw [hE' g h3,←h4]
   exact hkp.block g h5
 obtain ⟨hG,hcn'⟩:=YT hcn hkp hE' hF fun g hg=>by
  rw [hW'] at hg
  rcases EA hg with h4|h4
  ·exact .inr (by omega)
  ·exact .inl h4
 refine hK _ _ ⟨W',hG,μ,?_⟩
 refine CJ hcn' (d:=dst) hd (v:= .slice (some ⟨w.heap.size,0,none⟩) len len) (av:= .one (lsG n f la)) ?_
 subst hlen
 unfold cv cv0 cc dd
 refine ⟨EN hEl.len la,_,_,rfl,Zj _,fun hne=>⟨w.heap.size,0,rfl,Ix fun i d hi=>?_⟩⟩
 have hbl:(An f la)[i]?=some (toC d):=by
  show ((la.flatMap f).map toC)[i]?=_
  rw [List.getElem?_map,hi];rfl
 have hic:i<cs.length:=by rw [hE.len];exact (List.getElem?_eq_some_iff.1 hbl).1
 have hia:i<a'.size:=by have:=h2.1;simp at this;omega
 have h3:cc X.W0 μ σ.sz w a'[i] cs[i]:=h2.2 i a'[i] cs[i] (by simp [hia]) (Zk hic)
 have h4:=hE.get i _ _ (Zk hic) hbl _ _ _ _ _ h3
 refine ⟨a'[i],?_,h3.noL (hnl' _ (List.getElem_mem hic)),?_⟩
 ·rw [Nat.zero_add,cell_of_row W' _ _ a' e (0,0) hat]
  exact Array.getElem?_eq_getElem hia
 ·exact Kb.1 (h4.mono (Kl.of_kp hkp) (fun i hi=>⟨rfl,hi⟩) hE')
theorem Kx {α:Type} {f:α→List D} {la:List α} {d:Nat} {t e:TypeId} {parts:Array (Nat×Operand)} {agg:Bool} {n bytes:Nat} {zv:Value} [S:Sle P t e agg n bytes zv] {len:Nat} {ps:List (Nat×AV)} {cs:List C} (hlen:la.length=len:=by exact rfl) (hg:gOk ops σ.s gd:=by first|exact trivial|exact rfl) (hd:dB X.n (some d)=true:=by exact rfl) (hx:parts.toList.map (fun p=>(p.1,evC σ.s p.2))=ps:=by exact rfl) (hy:(ps.all fun p=>(Av p.2).all nlB)=true:=by exact rfl)
  (hc:DO (fun i=>some (i*n,n)) (BR len zv.cells.toList) ps=some cs:=by exact rfl) (hf:(cs.all nlB&&Nat.ble (len*n) 16777216&&Nat.blt 0 len)=true:=by exact rfl) (hEl:Elm n f:=by infer_instance)
  (hE:AL cs (An f la):=by first|exact AL.of_eq rfl|((repeat (first|exact AL.nil' rfl|(refine AL.cons' rfl ?_ ?_;focus (first|exact Ag.of_eq rfl|exact Ag.qs (by assumption)|(refine Ag.q rfl ?_;omega)|exact Ag.z0|exact Ag.z1|exact Ag.z2))));(first|done|fail)))
  (hl:Ai P X ops l (σ.app (some d) ⟨.one (lsG n f la),[],[],[]⟩) (fun es σ'=>K (⟨.one (lsG n f la),[],[],[]⟩::es) σ')):Ai P X ops (⟨some d,.buildSlice t len parts,ty,pos,af,gd⟩::l) σ K:=by
 simp only [Bool.and_eq_true] at hf
 exact .of (fun _ _ hl=>Run.step hg (Nl hEl hlen (DK hd) hx hy hc hf.1.1 hf.1.2 hf.2 hE) (fun p hp=>by cases hp) CT hl) hl
end
theorem Vb {W0 w:World} {b j k:Nat} : ∀ {l:List Rat} {off:Nat},(∀r∈l,RSz k r)→ddL W0 w b off (l.flatMap (nmD j))→ddL W0 w b off (l.flatMap (nmD k))
 | [],_,_,hd=>hd
 | x::l,off,h,hd=>by
   rw [List.flatMap_cons] at hd⊢
   show ddL W0 w b off (.q x k 0:: .q x k 1:: .q x k 2::l.flatMap (nmD k))
   replace hd:ddL W0 w b off (.q x j 0:: .q x j 1:: .q x j 2::l.flatMap (nmD j)):=hd
   have hx:=h x List.mem_cons_self
   simp only [ddL] at hd⊢
   obtain ⟨⟨v0,a0,a1,a2⟩,⟨v1,b0,b1,b2⟩,⟨v2,c0,c1,c2⟩,r⟩:=hd
   exact ⟨⟨v0,a0,a1,⟨a2.1,Nat.zero_le _⟩⟩,⟨v1,b0,b1,⟨b2.1,hx.1⟩⟩,⟨v2,c0,c1,⟨c2.1,Rc hx.2⟩⟩,Vb (fun r hr=>h r (List.mem_cons_of_mem _ hr)) r⟩
theorem Ag.ratsRs {j k:Nat} {l:List Rat} (h: ∀r∈l,RSz k r):Ag (Ap j l) (Ap k l):=fun W0 μ sz w x hx=>by
 unfold cc dd at hx⊢
 obtain ⟨h0,ao,cap,h1,h2,h3⟩:=hx
 refine ⟨EN (f:=nmD k) (es:=3) (fun _=>rfl) l,ao,cap,h1,h2,fun hne=>?_⟩
 have hne':l.flatMap (nmD j)≠ []:=fun h0=>by
  cases l with
  | nil=>exact hne rfl
  | cons a l=>cases h0
 obtain ⟨b,off,h4,h5⟩:=h3 hne'
 exact ⟨b,off,h4,Vb h h5⟩
theorem Ctr.shortArg {P:Program} {A:World→Prop} {f:FuncId} {j k:Nat} {l:List Rat} {R:AV} (h:Ctr P A f [.one (Ap k l)] R) (hs: ∀r∈l,RSz k r):Ctr P A f [.one (Ap j l)] R:=
 BG.weak h (.cons (Ent.one' rfl (Ag.ratsRs hs)) .nil) (Ent.of_eq rfl)
set_option maxRecDepth 20000
set_option maxHeartbeats 4000000
theorem P5 {P:Program} {r1 r2:ResultVar} {R a b:AV} {σ:St} {ns:List (Nat×List C)} (hn: ∀q∈ns,DQ σ [] q∨DQ σ (ns.map (·.1)) q) (h1:BH P σ r1 a:=by first|exact BH.tmp rfl|exact BH.cell inferInstance rfl rfl rfl rfl) (h2:BH P σ r2 b:=by first|exact BH.tmp rfl|exact BH.cell inferInstance rfl rfl rfl rfl) (ha:([a,b].all fun a=>match a with | .tup _=>false|_=>true)=true:=by exact rfl) (hE:Ent (.tup [a,b]) R:=by exact Ent.of_eq rfl):Fin P [r1,r2] [] R σ∧VD ns σ:=
 ⟨Ra h1 h2 ha hE,fun q hq=>by rcases hn q hq with h|h<;>exact h.1⟩
theorem WI {P:Program} {r1 r2 r3:ResultVar} {R a b c:AV} {σ:St} (h1:BH P σ r1 a:=by first|exact BH.tmp rfl|exact BH.cell inferInstance rfl rfl rfl rfl) (h2:BH P σ r2 b:=by first|exact BH.tmp rfl|exact BH.cell inferInstance rfl rfl rfl rfl) (h3:BH P σ r3 c:=by first|exact BH.tmp rfl|exact BH.cell inferInstance rfl rfl rfl rfl) (ha:([a,b,c].all fun a=>match a with | .tup _=>false|_=>true)=true:=by exact rfl) (hE:Ent (.tup [a,b,c]) R:=by exact Ent.of_eq rfl):Fin P [r1,r2,r3] [] R σ:=
 ⟨⟨[a,b,c],.cons h1 (.cons h2 (.cons h3 .nil)),.inr ha,hE⟩,fun p hp=>by cases hp⟩
theorem GO {j k:Nat} {x y:Rat} (hj:j≤100000000) (hk:k≤100000000) (h0:y≠0):Ctr Tryz.prog Amb 103 [nm j x,nm k y] (nm (j+k+2) (x/y)):=by
 have Q1:=YU (j:=j) (k:=k) (x:=x) (y:=y) hj hk h0
 refine Am Tryz.func103 rfl rfl rfl rfl rfl rfl ?_
 intro W0 base D μ0 hA hD
 repeat (first|refine Af ?_|refine Ac ?_|refine Aa rfl ?_|refine Ab rfl ?_|refine Ak ?_|refine Al ?_|refine Ad ?_|refine Ae ?_)
 refine As (And.intro (Or.inr rfl) ?_)
 exact AY
theorem QM {j:Nat} {t:Rat} (hj:j≤10000000):Ctr Tryz.prog Amb 120 [nm j t] (.tup [nm (2*j+4) (t*A5 t),nm (3*j+9) (A5 t-t*A5 t),nm (j+2) (A5 t)]):=by
 have D1:=Xq (j:=j) (x:=t) (by omega)
 have M1:=FU (j:=j) (k:=j+2) (x:=t) (y:=A5 t) (by omega) (by omega)
 have S1:=Vo (j:=j+2) (k:=j+(j+2)+2) (x:=A5 t) (y:=t*A5 t) (by omega) (by omega)
 refine Am Tryz.func120 rfl rfl rfl rfl rfl rfl ?_
 intro W0 base D μ0 hA hD
 repeat (first|refine Af ?_|refine Ac ?_|refine Aa rfl ?_|refine Ab rfl ?_|refine Ak ?_|refine Al ?_|refine Ad ?_|refine Ae ?_)
 refine As (And.intro (Or.inr rfl) ?_)
 exact WI (hE:=(by first|exact Ent.of_eq rfl|(refine Ent.tup rfl ?_;(repeat (first|exact GE.nil|(refine GE.cons ?_ rfl rfl ?_;focus (first|exact Ent.of_eq rfl|(refine Ent.agg' rfl ?_;(repeat (first|exact AL.nil' rfl|(refine AL.cons' rfl ?_ ?_;focus exact EO)));done)|(refine Ent.one' rfl ?_;exact EO)))));done)))
def Ee (a q:Rat) (i:Nat):Rat:=a*q^i
theorem Ir (a q:Rat):Ee a q 0=a:=by unfold Ee;rw [Rat.pow_zero,Rat.mul_one]
theorem Is (a q:Rat) (i:Nat):Ee a q (i+1)=Ee a q i*q:=by unfold Ee;rw [Rat.pow_succ,Rat.mul_assoc]
theorem IE {ja jq n J:Nat} {a q:Rat} (h1:ja≤10000000) (h2:jq≤10000000) (h3:J≤10000000) (hn:n≤1000) (hJ: ∀i,i≤n→RSz J (Ee a q i)):
  Ctr Tryz.prog Amb 122 [nm ja a,nm jq q,At (n:Nat)] (.one (Cv J (n+1) (Ee a q))):=by
 have h0:=hJ 0 (Nat.zero_le _)
 rw [Ir] at h0
 refine Am Tryz.func122 rfl rfl rfl rfl rfl rfl ?_
 intro W0 base D μ0 hA hD
 repeat (first|refine Af ?_|refine Ac ?_|refine Aa rfl ?_|refine Ab rfl ?_|refine Ak ?_|refine Al ?_|refine Ad ?_|refine Ae ?_)
 refine AK (fun m σ=> ∃(i:Nat) (done:List Rat),m=n-i∧i≤n∧done=tab (i+1) (Ee a q)∧Wk ⟨W0,base,D,26,[],μ0⟩ σ [(4,.one (.ptr 4 0)),(7,.one (.gl 10 done.length 3)),(11,At (n:Nat)),(12,At (i:Nat))] [(10,An (nmD J) done),(4,nmC jq q)]) (n:=n) ⟨0,[a],by omega,by omega,by simp [tab,Ir],?_⟩ ?_
 ·exact AT
 intro m σ hI
 obtain ⟨i,done,hm,hi0,hdone,hw⟩:=hI
 refine A6 hw ?_
 clear hw
 have hdl:done.length=i+1:=by rw [hdone];simp
 by_cases hi:i<n
 ·have bi:=AJ (k:= .i64) (decide_eq_true (show (i:Int)<(n:Int) by omega))
  have hin:=AM (k:= .i64) (show (IntKind.i64).wrap ((i:Int)+1)=((i+1:Nat):Int) from IntWalk.i64_in _ (by omega))
  have hx:done[((i:Nat):Int).toNat]?=some (Ee a q i):=by rw [hdone];exact A9 (by omega)
  have lt1:(0:Int)≤((i:Nat):Int)∧((i:Nat):Int)<(done.length:Nat):=by omega
  have st1:((i:Nat):Int).toNat*3+3≤(An (nmD J) done).length:=by rw [AA (n:=3) inferInstance,Int.toNat_natCast];omega
  have ld1:=Cd (f:=nmD J) (n:=3) inferInstance hx
  have M1:=FU (j:=J) (k:=jq) (x:=Ee a q i) (y:=q) (by omega) (by omega)
  have hs:=hJ (i+1) (by omega)
  rw [Is] at hs
  have ht:done++ [Ee a q i*q]=tab (i+1+1) (Ee a q):=by rw [hdone,←Is];exact Hg
  generalize Ee a q i=x at*
  repeat (first|refine Af ?_|refine Ac ?_|refine Aa rfl ?_|refine Ab rfl ?_|refine Ak ?_|refine Al ?_|refine Ad ?_|refine Ae ?_)
  try refine Af ?_
  refine OF 8 (by simp only [List.take_succ_cons,List.take_zero,List.drop_succ_cons,List.drop_zero];exact ⟨rfl,rfl⟩) (by kernel_rfl) (by kernel_rfl) (by kernel_rfl) (by kernel_rfl) (by kernel_rfl) ?_
  repeat (first
   | refine I0 (k:=10) st1 ld1 (hl:=?_)
   | refine A0 (hl:=?_)
   | refine AC (hl:=?_)
   | refine BW (hl:=?_)
   | refine GF (hl:=?_)
   | refine B8 (hl:=?_)
   | refine AP (hl:=?_)
   | refine Cy (hl:=?_)
   | refine Cx (hl:=?_)
   | refine Cz (hl:=?_)
   | refine Cb (hl:=?_)
   | refine Ci (hl:=?_)
   | refine Lt lt1 (hl:=?_)
   | refine Ay hA (hc:=M1) (hl:=?_))
  apply Ai.nil
  refine And.intro (by kernel_rfl) ?_
  refine ID (k:=10) (ss:= [(4,.one (.ptr 4 0)),(11,At (n:Nat)),(12,At (i:Nat))]) (bs:= [(4,nmC jq q)]) (ns:=(nmC (J+jq+2) (x*q))) hD ?_ ?_ ?_
  ·exact ⟨by omega,by omega⟩
  ·exact AT
  repeat (refine FZ rfl ?_;(first|refine AC (hl:=?_)|refine A0 (hl:=?_)|refine BP (hl:=?_));apply Ai.nil)
  refine F0 ?_
  repeat (first|refine Af ?_|refine Ac ?_|refine Aa rfl ?_|refine Ab rfl ?_|refine Ak ?_|refine Al ?_|refine Ad ?_|refine Ae ?_)
  refine ⟨m-1,by omega,i+1,done++ [x*q],by omega,by omega,ht,?_⟩
  exact AT
 ·have bi:=AJ (k:= .i64) (decide_eq_false (show ¬(i:Int)<(n:Int) by omega))
  obtain rfl:i=n:=by omega
  repeat (first|refine Af ?_|refine Ac ?_|refine Aa rfl ?_|refine Ab rfl ?_|refine Ak ?_|refine Al ?_|refine Ad ?_|refine Ae ?_)
  refine BI 10 hD (ss:= [(6,.one (Ap J done))]) (bs:= []) ?_ ?_
  ·exact It
  subst hdone
  refine As (And.intro (Or.inr rfl) ?_)
  exact AY
theorem Nn {ju jd n J:Nat} {u d:Rat} {f:Nat→Rat} (h1:ju≤10000000) (h2:jd≤10000000) (h3:J≤10000000) (hn:n≤1000) (hJ: ∀k i,k+i≤n→RSz J (BQ u d f k i)):
  BG Tryz.prog Amb 121 [.one (.gl 26 (n+1) 3),nm ju u,nm jd d] [(26,An (nmD J) (tab (n+1) f),An (nmD J) (tab (n+1) fun q=>BQ u d f (n-q) q))] (.one (Cv J (n+1) fun k=>BQ u d f k 0)):=by
 have hdn:=BK (k:= .i64) (show (IntKind.i64).wrap (((n+1:Nat):Int)-1)=(n:Int) by rw [show (((n+1:Nat):Int)-1)=(n:Int) by omega];exact IntWalk.i64_in _ (by omega))
 obtain ⟨R,hR⟩: ∃R,R=tab (n+1) fun q=>BQ u d f (n-q) q:=⟨_,rfl⟩
 obtain ⟨L,hL⟩: ∃L,L=tab (n+1) f:=⟨_,rfl⟩
 rw [←hR,←hL]
 have hLl:L.length=n+1:=by rw [hL];simp
 have hst:=Qh (u:=u) (d:=d) (f:=f) (n:=n)
 rw [←hL] at hst
 apply Am Tryz.func121 rfl rfl rfl rfl
 case hpf=>
  simp only [List.all_cons,List.all_nil,Bool.and_true,Bool.and_eq_true]
  exact ⟨rfl,Jc _,Jc _⟩
 case hin=>simp [inA,inC]
 intro W0 base D μ0 hA hD
 have hx0:L[((0:Nat):Int).toNat]?=some (f 0):=by rw [hL];exact A9 (by omega)
 have lt0:(0:Int)≤((0:Nat):Int)∧((0:Nat):Int)<((n+1:Nat):Int):=by omega
 have st0:((0:Nat):Int).toNat*3+3≤(An (nmD J) L).length:=by rw [AA (n:=3) inferInstance,Int.toNat_natCast];omega
 have ld0:=Cd (f:=nmD J) (n:=3) inferInstance hx0
 repeat (first|refine Af ?_|refine Ac ?_|refine Aa rfl ?_|refine Ab rfl ?_|refine Ak ?_|refine Al ?_|refine Ad ?_|refine Ae ?_)
 refine AK (fun m σ=> ∃(s:Nat) (cur done:List Rat),m=n-s∧s≤n∧cur=tab (n+1) (G0 u d f n s 0)∧done=tab (s+1) (fun k=>BQ u d f k 0)∧Wk ⟨W0,base,D,54,[26],μ0⟩ σ [(0,.one (.gl 26 (n+1) 3)),(4,.one (.ptr 4 0)),(5,.one (.ptr 5 0)),(7,At (n:Nat)),(8,.one (.gl 17 done.length 3)),(18,At (n:Nat)),(19,At (s:Nat))] [(26,An (nmD J) cur),(17,An (nmD J) done),(4,nmC ju u),(5,nmC jd d)]) (n:=n) ⟨0,L,[f 0],by omega,by omega,hst.symm,by simp [tab,BQ],?_⟩ ?_
 ·exact AT
 intro m σ hI
 obtain ⟨s,cur,done,hm,hs0,hcur,hdone,hw⟩:=hI
 refine A6 hw ?_
 clear hw hst hx0 ld0 st0 lt0
 have hdl:done.length=s+1:=by rw [hdone];simp
 by_cases hs:s<n
 ·have bs:=AJ (k:= .i64) (decide_eq_true (show (s:Int)<(n:Int) by omega))
  have hsn:=BK (k:= .i64) (show (IntKind.i64).wrap ((n:Int)-(s:Int))=((n-s:Nat):Int) by rw [show ((n:Int)-(s:Int))=((n-s:Nat):Int) by omega];exact IntWalk.i64_in _ (by omega))
  repeat (first|refine Af ?_|refine Ac ?_|refine Aa rfl ?_|refine Ab rfl ?_|refine Ak ?_|refine Al ?_|refine Ad ?_|refine Ae ?_)
  refine AK (fun b σ=> ∃(i:Nat) (cur:List Rat),b=n-s-i∧i≤n-s∧cur=tab (n+1) (G0 u d f n s i)∧Wk ⟨W0,base,D,54,[26],μ0⟩ σ [(0,.one (.gl 26 (n+1) 3)),(4,.one (.ptr 4 0)),(5,.one (.ptr 5 0)),(7,At (n:Nat)),(8,.one (.gl 17 done.length 3)),(18,At (n:Nat)),(19,At (s:Nat)),(24,At ((n-s:Nat):Int)),(25,At (i:Nat))] [(26,An (nmD J) cur),(17,An (nmD J) done),(4,nmC ju u),(5,nmC jd d)]) (n:=n-s) ⟨0,cur,by omega,by omega,hcur,?_⟩ ?_
  ·exact AT
  clear hcur cur
  intro b σ hI
  obtain ⟨i,cur,hb,hi0,hcur,hw⟩:=hI
  refine A6 hw ?_
  clear hw
  have hcl:cur.length=n+1:=by rw [hcur];simp
  by_cases hi:i<n-s
  ·have bi:=AJ (k:= .i64) (decide_eq_true (show (i:Int)<((n-s:Nat):Int) by omega))
   have hin:=AM (k:= .i64) (show (IntKind.i64).wrap ((i:Int)+1)=((i+1:Nat):Int) from IntWalk.i64_in _ (by omega))
   have hx:cur[((i:Nat):Int).toNat]?=some (BQ u d f s i):=by rw [hcur,←My (u:=u) (d:=d) (f:=f) (n:=n) (k:=s) (i:=i) (q:=i) (by omega) (by omega)];exact A9 (by omega)
   have hy:cur[((i+1:Nat):Int).toNat]?=some (BQ u d f s (i+1)):=by rw [hcur,←My (u:=u) (d:=d) (f:=f) (n:=n) (k:=s) (i:=i) (q:=i+1) (by omega) (by omega)];exact A9 (by omega)
   have lt1:(0:Int)≤((i:Nat):Int)∧((i:Nat):Int)<((n+1:Nat):Int):=by omega
   have lt2:(0:Int)≤((i+1:Nat):Int)∧((i+1:Nat):Int)<((n+1:Nat):Int):=by omega
   have st1:((i:Nat):Int).toNat*3+3≤(An (nmD J) cur).length:=by rw [AA (n:=3) inferInstance,Int.toNat_natCast];omega
   have st2:((i+1:Nat):Int).toNat*3+3≤(An (nmD J) cur).length:=by rw [AA (n:=3) inferInstance,Int.toNat_natCast];omega
   have ld1:=Cd (f:=nmD J) (n:=3) inferInstance hx
   have ld2:=Cd (f:=nmD J) (n:=3) inferInstance hy
   have M1:=FU (j:=jd) (k:=J) (x:=d) (y:=BQ u d f s i) (by omega) (by omega)
   have M2:=FU (j:=ju) (k:=J) (x:=u) (y:=BQ u d f s (i+1)) (by omega) (by omega)
   have A1:=Vq (j:=jd+J+2) (k:=ju+J+2) (x:=d*BQ u d f s i) (y:=u*BQ u d f s (i+1)) (by omega) (by omega)
   have hz:=hJ (s+1) i (by omega)
   have ht:=Vl (u:=u) (d:=d) (f:=f) (n:=n) (k:=s) (i:=i) (by omega) rfl
   rw [←hcur] at ht
   replace hz:RSz J (d*BQ u d f s i+u*BQ u d f s (i+1)):=hz
   generalize BQ u d f s i=x at*
   generalize BQ u d f s (i+1)=y at*
   repeat (first|refine Af ?_|refine Ac ?_|refine Aa rfl ?_|refine Ab rfl ?_|refine Ak ?_|refine Al ?_|refine Ad ?_|refine Ae ?_)
   refine ⟨b-1,by omega,i+1,cur.set i (d*x+u*y),by omega,by omega,ht,?_⟩
   exact AT
  ·have bi:=AJ (k:= .i64) (decide_eq_false (show ¬(i:Int)<((n-s:Nat):Int) by omega))
   obtain rfl:i=n-s:=by omega
   have hin:=AM (k:= .i64) (show (IntKind.i64).wrap ((s:Int)+1)=((s+1:Nat):Int) from IntWalk.i64_in _ (by omega))
   rw [SX (by omega)] at hcur
   have hx:cur[((0:Nat):Int).toNat]?=some (BQ u d f (s+1) 0):=by rw [hcur,←My (u:=u) (d:=d) (f:=f) (n:=n) (k:=s+1) (i:=0) (q:=0) (by omega) (by omega)];exact A9 (by omega)
   have lt1:(0:Int)≤((0:Nat):Int)∧((0:Nat):Int)<((n+1:Nat):Int):=by omega
   have st1:((0:Nat):Int).toNat*3+3≤(An (nmD J) cur).length:=by rw [AA (n:=3) inferInstance,Int.toNat_natCast];omega
   have ld1:=Cd (f:=nmD J) (n:=3) inferInstance hx
   have ht:done++ [BQ u d f (s+1) 0]=tab (s+1+1) fun k=>BQ u d f k 0:=by rw [hdone];exact Hg (g:=fun k=>BQ u d f k 0)
   generalize BQ u d f (s+1) 0=x at*
   repeat (first|refine Af ?_|refine Ac ?_|refine Aa rfl ?_|refine Ab rfl ?_|refine Ak ?_|refine Al ?_|refine Ad ?_|refine Ae ?_)
   try refine Af ?_
   refine ED 5 (by simp only [List.take_succ_cons,List.take_zero,List.drop_succ_cons,List.drop_zero];exact ⟨rfl,rfl⟩) (by kernel_rfl) ?_
   repeat (first
    | refine I0 (k:=26) st1 ld1 (hl:=?_)
    | refine A0 (hl:=?_)
    | refine AC (hl:=?_)
    | refine BW (hl:=?_)
    | refine BP (hl:=?_)
    | refine GF (hl:=?_)
    | refine B8 (hl:=?_)
    | refine AP (hl:=?_)
    | refine Cy (hl:=?_)
    | refine Cx (hl:=?_)
    | refine Cz (hl:=?_)
    | refine Cm (hl:=?_)
    | refine Cb (hl:=?_)
    | refine Ci (hl:=?_)
    | refine Lt lt1 (hl:=?_))
   apply Ai.nil
   refine ID (k:=17) (ss:= [(0,.one (.gl 26 (n+1) 3)),(4,.one (.ptr 4 0)),(5,.one (.ptr 5 0)),(7,At (n:Nat)),(18,At (n:Nat)),(19,At (s:Nat))]) (bs:= [(26,An (nmD J) cur),(4,nmC ju u),(5,nmC jd d)]) (ns:=(nmC J x)) hD ?_ ?_ ?_
   ·exact ⟨by omega,by omega⟩
   ·exact AT
   repeat (refine FZ rfl ?_;(first|refine AC (hl:=?_)|refine A0 (hl:=?_)|refine BP (hl:=?_));apply Ai.nil)
   refine F0 ?_
   repeat (first|refine Af ?_|refine Ac ?_|refine Aa rfl ?_|refine Ab rfl ?_|refine Ak ?_|refine Al ?_|refine Ad ?_|refine Ae ?_)
   refine ⟨m-1,by omega,s+1,cur,done++ [x],by omega,by omega,hcur,ht,?_⟩
   exact AT
 ·have bs:=AJ (k:= .i64) (decide_eq_false (show ¬(s:Int)<(n:Int) by omega))
  obtain rfl:s=n:=by omega
  rw [Vm,←hR] at hcur
  subst hcur
  repeat (first|refine Af ?_|refine Ac ?_|refine Aa rfl ?_|refine Ab rfl ?_|refine Ak ?_|refine Al ?_|refine Ad ?_|refine Ae ?_)
  refine BI 17 hD (ss:= [(6,.one (Ap J done))]) (bs:= [(26,An (nmD J) cur)]) ?_ ?_
  ·exact It
  subst hdone
  refine As (And.intro (Or.inr rfl) ⟨(AY (hE:=Ent.of_eq rfl)).1,?_⟩)
  exact List.forall_mem_cons.2 ⟨(AO (ks:= []) inferInstance).1,Aq⟩
theorem Dh {j:Nat} {l:List Rat} (h1:0<l.length) (h2:l.length≤41):Ctr Tryz.prog Amb 98 [.one (Ap j l)] (.one (.v (.bool true))):=by
 have b1:=DL (k:= .i64) (decide_eq_true (show (l.length:Int)>0 by omega))
 have b2:=Gh (k:= .i64) (decide_eq_true (show (l.length:Int)≤41 by omega))
 refine Am Tryz.func98 rfl rfl rfl rfl rfl rfl ?_
 intro W0 base D μ0 hA hD
 repeat (first|refine Af ?_|refine Ac ?_|refine Aa rfl ?_|refine Ab rfl ?_|refine Ak ?_|refine Al ?_|refine Ad ?_|refine Ae ?_)
 refine As (And.intro (Or.inr rfl) ?_)
 exact AY
theorem E6 {α:Type} {l:List α} {i:Nat} {x:α} (h:l[i]?=some x):l.drop i=x::l.drop (i+1):=by
 have hi:=(List.getElem?_eq_some_iff.1 h)
 rw [List.drop_eq_getElem_cons hi.1,hi.2]
abbrev DU:Rat:=((1:Int):Rat)
theorem Wd {j J:Nat} {l:List Rat} (hl:l.length≤100) (hne:0<l.length) (hj:j≤100000) (hr: ∀r∈l,RSz j r) (hJ:l.length*j+2+j+2≤J):
  CF Tryz.prog Amb 100 [.one (Ap j l)] [] [(26,An (nmD J) (l.map fun r=>whS DU l*r))] (.tup [.one (.gl 26 (l.map fun r=>whS DU l*r).length 3),nm (l.length*j+2) (whS DU l)]):=by
 have hjs:l.length*j≤10000000:=Nat.le_trans (Nat.mul_le_mul hl hj) (by decide)
 obtain ⟨js,hjse⟩: ∃js,js=l.length*j+2:=⟨_,rfl⟩
 rw [←hjse] at hJ⊢
 obtain ⟨S,hS⟩: ∃S,S=whS DU l:=⟨_,rfl⟩
 rw [←hS]
 obtain ⟨h,hh⟩: ∃h:Rat→Rat,h=fun r=>S*r:=⟨_,rfl⟩
 rw [←hh]
 have hne':(!(An (nmD J) (l.map h)).isEmpty)=true:=by
  have:=Ce (f:=nmD J) inferInstance (by decide) (show 0<(l.map h).length by simpa using hne)
  cases hb:An (nmD J) (l.map h) with
  | nil=>rw [hb] at this;cases this
  | cons a b=>rfl
 have I1:=Vp (n:=1) rfl
 refine C4 Tryz.func100 rfl rfl rfl rfl (by
  simp only [List.all_cons,List.all_nil,Bool.and_true,Bool.and_eq_true]
  exact ⟨by simp [inA,inC],Cu _ _,hne'⟩) (by simp [inA,inC]) (by simp) (by simp) ?_
 intro W0 base D μ0 hA hD
 repeat (first|refine Af ?_|refine Ac ?_|refine Aa rfl ?_|refine Ab rfl ?_|refine Ak ?_|refine Al ?_|refine Ad ?_|refine Ae ?_)
 refine AK (fun b σ=> ∃(i m:Nat),b=l.length-i∧i≤l.length∧0<m∧Sz (i*j+2) m∧whS ((m:Int):Rat) (l.drop i)=S∧Wk ⟨W0,base,D,43,[],μ0⟩ σ [(0,.one (Ap j l)),(3,.one (.ptr 3 0)),(4,.one (.ptr 4 0)),(11,.one (Ap j l)),(12,At (l.length:Nat)),(13,At (i:Nat))] [(3,nmC 2 0),(4,nmC js ((m:Int):Rat))]) (n:=l.length) ⟨0,1,by omega,by omega,by decide,Aj _ _ (by rw [Nat.zero_mul];decide),hS.symm,?_⟩ ?_
 ·exact AT
 intro b σ hI
 obtain ⟨i,m,hb,hi0,hm,hms,hw0,hw⟩:=hI
 refine A6 hw ?_
 clear hw
 by_cases hi:i<l.length
 ·obtain ⟨x,hx,hx'⟩:=FL hi
  have bi:=AJ (k:= .i64) (decide_eq_true (show (i:Int)<(l.length:Int) by omega))
  have hin:=AM (k:= .i64) (show (IntKind.i64).wrap ((i:Int)+1)=((i+1:Nat):Int) from IntWalk.i64_in _ (by omega))
  rw [E6 hx'] at hw0
  obtain ⟨m',hm',he,hs'⟩:=Ta (r:=x) hm hms (hr x (List.mem_of_getElem? hx'))
  have hw1:whS ((m':Int):Rat) (l.drop (i+1))=S:=by rw [←he];exact hw0
  have e1:i*j+2+j=(i+1)*j+2:=by rw [Nat.succ_mul];omega
  rw [e1] at hs'
  have hs2:RSz js ((m':Int):Rat):=(QN hs' (by omega)).mono (by
   have:=Nat.mul_le_mul_right j (show i+1≤l.length by omega)
   omega)
  have M1:=FU (j:=js) (k:=j) (x:=((m:Int):Rat)) (y:=x) (by omega) (by omega)
  have D1:=Xq (j:=js+j+2) (x:=((m:Int):Rat)*x) (by omega)
  have M2:=FU (j:=js) (k:=js+j+2+2) (x:=((m:Int):Rat)) (y:=A5 (((m:Int):Rat)*x)) (by omega) (by omega)
  repeat (first|refine Af ?_|refine Ac ?_|refine Aa rfl ?_|refine Ab rfl ?_|refine Ak ?_|refine Al ?_|refine Ad ?_|refine Ae ?_)
  refine ⟨b-1,by omega,i+1,m',by omega,by omega,hm',hs',hw1,?_⟩
  exact AT
 ·have bi:=AJ (k:= .i64) (decide_eq_false (show ¬(i:Int)<(l.length:Int) by omega))
  have hmS:((m:Int):Rat)=S:=by
   rw [List.drop_eq_nil_of_le (by omega)] at hw0
   exact hw0
  rw [hmS]
  clear hw0 hms hm I1 hS hmS
  repeat (first|refine Af ?_|refine Ac ?_|refine Aa rfl ?_|refine Ab rfl ?_|refine Ak ?_|refine Al ?_|refine Ad ?_|refine Ae ?_)
  refine AK (fun n σ=> ∃(i:Nat) (cur:List Rat),n=l.length-i∧i≤l.length∧cur=(l.take i).map h++List.replicate (l.length-i) 0∧Wk ⟨W0,base,D,43,[],μ0⟩ σ [(3,.one (.ptr 3 0)),(4,.one (.ptr 4 0)),(7,.one (.gl 26 l.length 3)),(27,.one (Ap j l)),(28,At (l.length:Nat)),(29,At (i:Nat))] [(26,An (nmD J) cur),(3,nmC 2 0),(4,nmC js S)]) (n:=l.length) ⟨0,List.replicate l.length 0,by omega,by omega,by simp,?_⟩ ?_
  ·exact AT
  intro n σ hI
  obtain ⟨i,cur,hn,hi0,hcur,hw⟩:=hI
  refine A6 hw ?_
  clear hw
  have hcl:cur.length=l.length:=by rw [hcur];simp;omega
  by_cases hi:i<l.length
  ·obtain ⟨x,hx,hx'⟩:=FL hi
   have bi:=AJ (k:= .i64) (decide_eq_true (show (i:Int)<(l.length:Int) by omega))
   have hin:=AM (k:= .i64) (show (IntKind.i64).wrap ((i:Int)+1)=((i+1:Nat):Int) from IntWalk.i64_in _ (by omega))
   have hlt:(0:Int)≤((i:Nat):Int)∧((i:Nat):Int)<(l.length:Nat):=by omega
   have hst:((i:Nat):Int).toNat*3+3≤(An (nmD J) cur).length:=by rw [AA (n:=3) inferInstance,hcl,Int.toNat_natCast];omega
   have M3:=FU (j:=js) (k:=j) (x:=S) (y:=x) (by omega) (by omega)
   repeat (first|refine Af ?_|refine Ac ?_|refine Aa rfl ?_|refine Ab rfl ?_|refine Ak ?_|refine Al ?_|refine Ad ?_|refine Ae ?_)
   refine ⟨n-1,by omega,i+1,cur.set i (S*x),by omega,by omega,?_,?_⟩
   ·rw [hcur,show S*x=h x by rw [hh]];exact Wb rfl hx'
   ·exact AT
  ·have bi:=AJ (k:= .i64) (decide_eq_false (show ¬(i:Int)<(l.length:Int) by omega))
   have he:cur=l.map h:=by rw [hcur,List.take_of_length_le (by omega),show l.length-i=0 by omega];simp
   subst he
   repeat (first|refine Af ?_|refine Ac ?_|refine Aa rfl ?_|refine Ab rfl ?_|refine Ak ?_|refine Al ?_|refine Ad ?_|refine Ae ?_)
   refine As (And.intro (Or.inr rfl) (P5 ?_ (hE:=by exact Ent.tup rfl (GE.cons (Ent.one' rfl (Ag.glLen (by simp))) rfl rfl (GE.cons (Ent.of_eq rfl) rfl rfl GE.nil)))))
   exact List.forall_mem_cons.2 ⟨.inl (AO inferInstance),Aq⟩
theorem F3 {j J n:Nat} {l:List Rat} (hl:l.length=n+1) (hn:n≤60) (hj:j≤100000) (hr: ∀r∈l,RSz j r) (hJ:(n+1)*j+2+j+2≤J):
  CF Tryz.prog Amb 100 [.one (Ap j l)] [] [(26,An (nmD J) (tab (n+1) fun i=>whS DU l*l.getD i 0))] (.tup [.one (.gl 26 (n+1) 3),nm ((n+1)*j+2) (whS DU l)]):=by
 have h:=Wd (J:=J) (l:=l) (by omega) (by omega) hj hr (by rw [hl];exact hJ)
 have e:(l.map fun r=>whS DU l*r)=tab (n+1) fun i=>whS DU l*l.getD i 0:=by rw [WB (fun r=>whS DU l*r) 0 l,hl]
 rw [e,Ek,hl] at h
 exact h
end Go.Proofs.YtnkobfcnflphkaaGreatDoor
