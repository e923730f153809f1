/-
  Several texts in one: Za, Au, Zae, Zb, Zc.
-/
import Derived.Test.YtnkobfcnflphkaaGreatDoorEv
import Derived.Test.YtnkobfcnflphkaaGreatDoorHn
import Derived.Test.YtnkobfcnflphkaaGreatDoorHz
import Derived.Test.YtnkobfcnflphkaaGreatDoorDn
namespace Go.Proofs.YtnkobfcnflphkaaGreatDoor
open Go.RowKit
set_option linter.unusedVariables false
set_option linter.unusedSimpArgs false
section
variable {P:Program} {X:Ctx} {σ:St} {Q:Exit→St→Prop} {tl:List Oper}
theorem tl_fz {o:Oper} (k:Nat) {ss:List (Nat×AV)} {bs:List (Nat×List C)} (hD: ∀g,X.D g→ ∃k∈X.ps,g=(X.μ0 k).1) (hg:o.guard=none:=by exact rfl) (h:RunK P X [o] [o] σ fun _ σ'=>Fk X σ' k ss bs∧Tl P X Q tl (stL ss bs)):Tl P X Q (o::tl) σ:=by
 obtain ⟨es,σ',hr,hf,ht⟩:=h
 cases hr with
 | cons hd hrd hal hl=>
   cases hl
   unfold Does at hd
   rw [hg] at hd
   exact ⟨hg,_,fun a w hc K Q hK=>hd σ (fun _ _=> .inl rfl) (fun k _=> .inr rfl) hrd hal a w hc K Q fun a' w' hc'=>hK a' w' (hf.cn hD hc'),ht⟩
end
def BlkFz (σ:St) (k:Nat) (ks:List Nat) (p:Nat×List C):Prop:=(σ.sz p.1=p.2.length∧ ∀(i:Nat) c,p.2[i]?=some c→FzC σ k (σ.m p.1 i) c∧nl c)∧p.2.all (inC ks)=true
theorem BlkFz.of {σ:St} {k:Nat} {ks:List Nat} {p:Nat×List C} (h:BlkOk σ ks p):BlkFz σ k ks p:=⟨⟨h.1.1,fun i c hc=>⟨.ent (h.1.2 i c hc).1,(h.1.2 i c hc).2⟩⟩,h.2⟩
theorem BlkFz.gl {α:Type} {n:Nat} {f:α→List D} (hf:Elm n f) {σ:St} {k kb len:Nat} {ks:List Nat} {l:List α} (hz:σ.sz k=(blkL f l).length:=by exact rfl) (hm:RowX (σ.m k) (blkL f l):=by first | exact rowX_row | exact rowX_laid) (hz2:σ.sz kb=1:=by exact rfl) (hm2:σ.m kb 0= .gl k len n:=by exact rfl) (hlen:len=l.length:=by first | rfl | omega):BlkFz σ k ks (kb,[lsG n f l]):=by
 subst hlen
 have h:=fz_blk (f:=f) (l:=l) hf hz hm
 refine ⟨⟨hz2,fun i c hc=>?_⟩,by simp [inC]⟩
 match i,hc with
 | 0,hc=>
   cases hc
   refine ⟨?_,trivial⟩
   show FzC σ k (σ.m kb 0) _
   rw [hm2]
   cases h with
   | one h=>exact h
   | ent h=>exact .ent fun W0 μ sz w x hx=>h W0 μ sz w x hx
theorem fk_mk2 {X:Ctx} {σ:St} {k:Nat} {ss:List (Nat×AV)} {bs:List (Nat×List C)} (h1: ∀p∈ss,FzA σ k (σ.s p.1) p.2) (h2: ∀p∈bs,BlkFz σ k (bs.map (·.1)) p)
  (hb:((ss.all fun p=>inA (bs.map (·.1)) p.2)&&ndB (bs.map (·.1))&&(X.ps.all fun k=>(bs.map (·.1)).any (Nat.beq k))&&(!X.ps.any (Nat.beq k))&&(bs.all fun p=>!Nat.beq p.1 k))=true):Fk X σ k ss bs:=by
 simp only [Bool.and_eq_true,Bool.not_eq_true'] at hb
 refine ⟨h1,fun p hp=>(h2 p hp).1,hb.1.1.1.1,List.all_eq_true.2 fun p hp=>(h2 p hp).2,ndB_ok hb.1.1.1.2,hb.1.1.2,fun hk=>?_,by
  refine List.all_eq_true.2 fun p hp=>?_
  exact List.all_eq_true.1 hb.2 p hp⟩
 have:=List.any_eq_false.1 hb.1.2 k hk
 simp at this
abbrev ratT (j m:Nat) (g:Nat→Rat):C:=rats j (tab m g)
section
variable {P:Program} {X:Ctx} {ops l:List Oper} {σ:St} {K:List Eff→St→Prop} {s:Nat→AV} {z:Nat→Nat}
variable {dst:Option Tmp} {ty:TypeId} {pos:String} {af:Array Edge} {gd:Option (Nat×Bool)}
theorem run_build0 {P:Program} (w:World) (t e:TypeId) (ie:TypeInfo) (hu:P.underlying t=some (.slice e)) (hie:P.info? e=some ie):
  (Instr.buildSlice t 0 #[]).run P w= .ok (.slice (some ⟨w.heap.size,0,none⟩) 0 0) (w.alloc (.cells #[] e)):=by
 simp [Instr.buildSlice,run_underlying hu,sizeOf,typeInfo,hie,Instr.fill,newRow]
 congr 2
 exact Array.ext (by simp) (fun i h1 h2=>by simp at h2)
theorem sim_build0 {t e:TypeId} {agg:Bool} {n bytes:Nat} {zv:Value} [S:Sle P t e agg n bytes zv] {id:Nat} (hd: ∀t,dst=some t→t<X.n):
  Sim P X ⟨dst,.buildSlice t 0 #[],ty,pos,af,gd⟩ s z ⟨.one (.gl id 0 n),[],[],[]⟩:=by
 refine Sim.of0 fun W=>?_
 replace hd: ∀t,dst=some t→t<(X.at W).n:=hd
 generalize X.at W=X at hd⊢
 intro σ hs hsz _ hal a w hcn K Q hK
 obtain ⟨μ,hcn⟩:=hcn
 obtain ⟨inf,hi,hz,hsize,hby⟩:=S.info
 have hrun:(execOp a.eval ⟨dst,.buildSlice t 0 #[],ty,pos,af,gd⟩).run P w= .ok (.value (.slice (some ⟨w.heap.size,0,none⟩) 0 0)) (w.alloc (.cells #[] e)):=by
  simp [execOp,run_build0 w t e inf S.hu hi]
 unfold Oper.wp
 rw [hrun]
 have hkp:Kp w (w.alloc (.cells #[] e)):=(Below.refl _ _).alloc (Nat.le_refl _) _
 refine hK _ _ ⟨μ,?_⟩
 refine cn_put (cn_kp hcn hkp) (d:=dst) hd (v:= .slice (some ⟨w.heap.size,0,none⟩) 0 0) (av:= .one (.gl id 0 n)) ⟨_,0,rfl,Nat.le_refl _,fun _=>rfl,fun h=>absurd rfl h⟩
theorem v_build0 {d:Nat} {t e:TypeId} {agg:Bool} {n bytes:Nat} {zv:Value} [S:Sle P t e agg n bytes zv] (hg:gOk ops σ.s gd:=by first | exact trivial | exact rfl) (hd:dB X.n (some d)=true:=by exact rfl)
  (hl:RunK P X ops l (σ.app (some d) ⟨.one (.gl d 0 n),[],[],[]⟩) (fun es σ'=>K (⟨.one (.gl d 0 n),[],[],[]⟩::es) σ')):RunK P X ops (⟨some d,.buildSlice t 0 #[],ty,pos,af,gd⟩::l) σ K:=
 .of (fun _ _ hl=>Run.step hg (sim_build0 (dB_ok hd)) (fun p hp=>by cases hp) alOk_nil hl) hl
end
theorem blkL_ns {α:Type} {n:Nat} {f:α→List D} (hf:Elm n f) (ks:List Nat) (l:List α):((blkL f l).all fun c=>nlB c&&inC ks c)=true:=List.all_eq_true.2 fun c hc=>by
 obtain ⟨d,hd,rfl⟩:=List.mem_map.1 hc
 obtain ⟨a,_,hda⟩:=List.mem_flatMap.1 hd
 rw [List.all_eq_true.1 (hf.nl a) d hda,pfC_in (toC_pf d)]
 rfl
section
variable {P:Program} {X:Ctx} {ops l:List Oper} {σ:St} {K:List Eff→St→Prop} {s:Nat→AV} {z:Nat→Nat}
variable {dst:Option Tmp} {ty:TypeId} {pos:String} {af:Array Edge} {gd:Option (Nat×Bool)}
theorem run_eqIn_nil (d:Nat) (t e:TypeId) (a:Option Addr) (l c:Nat) (h:P.underlying t=some (.slice e)) (w:World):(Op.equalIn (d+1) t (.slice a l c) (.slice none 0 0)).run P w= .ok a.isNone w:=by
 cases a<;>simp [Op.equalIn,run_underlying h w]
theorem run_eq_nil (t e:TypeId) (a:Option Addr) (l c:Nat) (h:P.underlying t=some (.slice e)) (w:World):(Op.equal t (.slice a l c) (.slice none 0 0)).run P w= .ok a.isNone w:=run_eqIn_nil 9999 t e a l c h w
theorem pure_eqNilLs {t e u:TypeId} {x y:Operand} {agg:Bool} {n bytes:Nat} {zv:Value} [S:Sle P t e agg n bytes zv] {α:Type} {f:α→List D} {la:List α} (hx:evC s x= .one (lsG n f la)) (hne:la.flatMap f≠ []) (hy:evC s y= .one (.v (.slice none 0 0))):
  Pure P ⟨dst,.binOp .eql t x y u,ty,pos,af,gd⟩ s (.one (.v (.bool false))):=fun W0 μ sz w ρ hρ=>by
 have h:=hρ x (by simp [Op.operands])
 rw [hx] at h
 have h':=hρ y (by simp [Op.operands])
 rw [hy] at h'
 replace h':ρ y= .slice none 0 0:=h'
 unfold cv cv0 cc dd at h
 obtain ⟨_,ao,cap,hv,_,h3⟩:=h
 obtain ⟨b,off,rfl,_⟩:=h3 hne
 have h3:(Op.equal t (.slice (some ⟨b,off,none⟩) la.length cap) (.slice none 0 0)).run P w= .ok false w:=run_eq_nil t e _ _ _ S.hu w
 refine ⟨.bool false,?_,rfl⟩
 have h4:(binOp .eql t (.slice (some ⟨b,off,none⟩) la.length cap) (.slice none 0 0)).run P w= .ok (.bool false) w:=by
  show (do pure (Value.bool (←Op.equal t _ (.slice none 0 0))):Sem Value).run P w=_
  rw [Sem.run_bind,h3]
  rfl
 have h5:(eqGuard .eql t x y (.slice (some ⟨b,off,none⟩) la.length cap) (.slice none 0 0)).run P w= .ok () w:=rfl
 show (do let v←(do eqGuard .eql t x y (ρ x) (ρ y);binOp .eql t (ρ x) (ρ y):Sem Value);pure (Next.value v):Sem Next).run P w=_
 rw [hv,h',Sem.run_bind,Sem.run_bind,h5,Result.andThen_ok,h4]
 rfl
theorem v_eqNil {t e u:TypeId} {x y:Operand} {agg:Bool} {n bytes:Nat} {zv:Value} [S:Sle P t e agg n bytes zv] {α:Type} {f:α→List D} {la:List α} (hne:la.flatMap f≠ []) (hg:gOk ops σ.s gd:=by first | exact trivial | exact rfl) (hd:dB X.n dst=true:=by exact rfl) (hx:evC σ.s x= .one (lsG n f la):=by exact rfl) (hy:evC σ.s y= .one (.v (.slice none 0 0)):=by exact rfl)
  (hl:RunK P X ops l (σ.app dst ⟨.one (.v (.bool false)),[],[],[]⟩) (fun es σ'=>K (⟨.one (.v (.bool false)),[],[],[]⟩::es) σ')):RunK P X ops (⟨dst,.binOp .eql t x y u,ty,pos,af,gd⟩::l) σ K:=
 u_pure (o:=⟨dst,.binOp .eql t x y u,ty,pos,af,gd⟩) hg hd (pure_eqNilLs hx hne hy) hl
end
theorem flat_ne {j:Nat} {l:List Rat} (h:0<l.length):l.flatMap (nmD j)≠ []:=fun h0=>by
 cases l with
 | nil=>cases h
 | cons a l=>cases h0
end Go.Proofs.YtnkobfcnflphkaaGreatDoor
namespace Go.Proofs.YtnkobfcnflphkaaGreatDoor
open Go.RowKit
set_option linter.unusedVariables false
set_option linter.unusedSimpArgs false
section
variable {P:Program} {X:Ctx} {ops l:List Oper} {σ:St} {K:List Eff→St→Prop}
variable {dst:Option Tmp} {ty:TypeId} {pos:String} {af:Array Edge} {gd:Option (Nat×Bool)}
theorem a_call {A:World→Prop} {c:Call} {f:FuncId} {us:List AV} {R:AV} (hcl:calleeOf σ.s c.callee=some (f,[]):=by exact rfl) (has:c.args.toList.map (evC σ.s)=us:=by exact rfl) (hc:Ctr P A f us R:=by assumption) (hA:A X.W0:=by assumption) (hM:MonoA A:=by infer_instance) (hF:Fun P f:=by infer_instance) (hg:gOk ops σ.s gd:=by first | exact trivial | exact rfl) (hd:dB X.n dst=true:=by exact rfl)
  (hl:RunK P X ops l (σ.app dst ⟨R,[],[],[]⟩) (fun es σ'=>K (⟨R,[],[],[]⟩::es) σ')):RunK P X ops (⟨dst,.call c,ty,pos,af,gd⟩::l) σ K:=
 v_callE hA hc hg hd hcl (Ents.of_eq has) hl
theorem a_callR1 {A:World→Prop} {c:Call} {f:FuncId} {us caps:List AV} {R:AV} {k1:Nat} {c1:List C} (hcl:calleeOf σ.s c.callee=some (f,caps):=by exact rfl) (has:c.args.toList.map (evC σ.s)++caps=us:=by exact rfl) (hc:CtrM P A f us [(k1,c1,c1)] R:=by assumption) (hA:A X.W0:=by assumption) (hM:MonoA A:=by infer_instance) (hF:Fun P f:=by infer_instance) (hg:gOk ops σ.s gd:=by first | exact trivial | exact rfl) (hd:dB X.n dst=true:=by exact rfl)
  (h1:rdL (σ.m k1) 0 c1.length=c1:=by exact rfl) (hb:((([(k1,c1)]:List (Nat×List C)).all (fun p=>blkB σ.sz p.2.length p)&&([]:List (Nat×List C×List C)).all (fun p=>blkB σ.sz p.2.2.length (p.1,p.2.1))&&((([(k1,c1)]:List (Nat×List C)).map (·.1)++([]:List (Nat×List C×List C)).map (·.1)).all fun k=>(c.args.toList.map (evC σ.s)++caps).any (mentA k))&&ndB (([(k1,c1)]:List (Nat×List C)).map (·.1))))=true:=by exact rfl)
  (hl:RunK P X ops l (σ.app dst ⟨R,[(k1,0,c1)],[],[]⟩) (fun es σ'=>K (⟨R,[(k1,0,c1)],[],[]⟩::es) σ')):RunK P X ops (⟨dst,.call c,ty,pos,af,gd⟩::l) σ K:=by
 exact v_callR hA [(k1,c1)] hc hg hd hcl (Ents.of_eq has) (List.forall_mem_cons.2 ⟨h1,nil_all⟩) hb hl
theorem a_callR2 {A:World→Prop} {c:Call} {f:FuncId} {us caps:List AV} {R:AV} {k1 k2:Nat} {c1 c2:List C} (hcl:calleeOf σ.s c.callee=some (f,caps):=by exact rfl) (has:c.args.toList.map (evC σ.s)++caps=us:=by exact rfl) (hc:CtrM P A f us [(k1,c1,c1),(k2,c2,c2)] R:=by assumption) (hA:A X.W0:=by assumption) (hM:MonoA A:=by infer_instance) (hF:Fun P f:=by infer_instance) (hg:gOk ops σ.s gd:=by first | exact trivial | exact rfl) (hd:dB X.n dst=true:=by exact rfl)
  (h1:rdL (σ.m k1) 0 c1.length=c1:=by exact rfl) (h2:rdL (σ.m k2) 0 c2.length=c2:=by exact rfl) (hb:((([(k1,c1),(k2,c2)]:List (Nat×List C)).all (fun p=>blkB σ.sz p.2.length p)&&([]:List (Nat×List C×List C)).all (fun p=>blkB σ.sz p.2.2.length (p.1,p.2.1))&&((([(k1,c1),(k2,c2)]:List (Nat×List C)).map (·.1)++([]:List (Nat×List C×List C)).map (·.1)).all fun k=>(c.args.toList.map (evC σ.s)++caps).any (mentA k))&&ndB (([(k1,c1),(k2,c2)]:List (Nat×List C)).map (·.1))))=true:=by exact rfl)
  (hl:RunK P X ops l (σ.app dst ⟨R,[(k1,0,c1),(k2,0,c2)],[],[]⟩) (fun es σ'=>K (⟨R,[(k1,0,c1),(k2,0,c2)],[],[]⟩::es) σ')):RunK P X ops (⟨dst,.call c,ty,pos,af,gd⟩::l) σ K:=
 v_callR hA [(k1,c1),(k2,c2)] hc hg hd hcl (Ents.of_eq has) (List.forall_mem_cons.2 ⟨h1,List.forall_mem_cons.2 ⟨h2,nil_all⟩⟩) hb hl
theorem a_callR3 {A:World→Prop} {c:Call} {f:FuncId} {us caps:List AV} {R:AV} {k1 k2 k3:Nat} {c1 c2 c3:List C} (hcl:calleeOf σ.s c.callee=some (f,caps):=by exact rfl) (has:c.args.toList.map (evC σ.s)++caps=us:=by exact rfl) (hc:CtrM P A f us [(k1,c1,c1),(k2,c2,c2),(k3,c3,c3)] R:=by assumption) (hA:A X.W0:=by assumption) (hM:MonoA A:=by infer_instance) (hF:Fun P f:=by infer_instance) (hg:gOk ops σ.s gd:=by first | exact trivial | exact rfl) (hd:dB X.n dst=true:=by exact rfl)
  (h1:rdL (σ.m k1) 0 c1.length=c1:=by exact rfl) (h2:rdL (σ.m k2) 0 c2.length=c2:=by exact rfl) (h3:rdL (σ.m k3) 0 c3.length=c3:=by exact rfl) (hb:((([(k1,c1),(k2,c2),(k3,c3)]:List (Nat×List C)).all (fun p=>blkB σ.sz p.2.length p)&&([]:List (Nat×List C×List C)).all (fun p=>blkB σ.sz p.2.2.length (p.1,p.2.1))&&((([(k1,c1),(k2,c2),(k3,c3)]:List (Nat×List C)).map (·.1)++([]:List (Nat×List C×List C)).map (·.1)).all fun k=>(c.args.toList.map (evC σ.s)++caps).any (mentA k))&&ndB (([(k1,c1),(k2,c2),(k3,c3)]:List (Nat×List C)).map (·.1))))=true:=by exact rfl)
  (hl:RunK P X ops l (σ.app dst ⟨R,[(k1,0,c1),(k2,0,c2),(k3,0,c3)],[],[]⟩) (fun es σ'=>K (⟨R,[(k1,0,c1),(k2,0,c2),(k3,0,c3)],[],[]⟩::es) σ')):RunK P X ops (⟨dst,.call c,ty,pos,af,gd⟩::l) σ K:=
 v_callR hA [(k1,c1),(k2,c2),(k3,c3)] hc hg hd hcl (Ents.of_eq has) (List.forall_mem_cons.2 ⟨h1,List.forall_mem_cons.2 ⟨h2,List.forall_mem_cons.2 ⟨h3,nil_all⟩⟩⟩) hb hl
theorem a_callM {A:World→Prop} {c:Call} {f:FuncId} {us caps:List AV} {k:Nat} {b d:List C} {R:AV} (hcl:calleeOf σ.s c.callee=some (f,caps):=by exact rfl) (has:c.args.toList.map (evC σ.s)++caps=us:=by exact rfl) (hc:CtrM P A f us [(k,b,d)] R:=by assumption) (hA:A X.W0:=by assumption) (hM:MonoA A:=by infer_instance) (hF:Fun P f:=by infer_instance) (hg:gOk ops σ.s gd:=by first | exact trivial | exact rfl) (hd:dB X.n dst=true:=by exact rfl) (hrw:rdL (σ.m k) 0 b.length=b:=by exact rfl)
  (hb:((([]:List (Nat×List C)).all (fun p=>blkB σ.sz p.2.length p)&& [(k,b,d)].all (fun p=>blkB σ.sz p.2.2.length (p.1,p.2.1))&&((([]:List (Nat×List C)).map (·.1)++ [(k,b,d)].map (·.1)).all fun k=>(c.args.toList.map (evC σ.s)++caps).any (isPtr k)))=true):=by exact rfl)
  (hl:RunK P X ops l (σ.app dst ⟨R,[(k,0,b)],[(k,0,d)],[]⟩) (fun es σ'=>K (⟨R,[(k,0,b)],[(k,0,d)],[]⟩::es) σ')):RunK P X ops (⟨dst,.call c,ty,pos,af,gd⟩::l) σ K:=
 v_callM hA hc hg hd hcl (Ents.of_eq has) hrw hb hl
theorem a_callN {A:World→Prop} {c:Call} {f:FuncId} {us:List AV} {cs:List C} {d:Nat} (hcl:calleeOf σ.s c.callee=some (f,[]):=by exact rfl) (has:c.args.toList.map (evC σ.s)=us:=by exact rfl) (hc:CtrN P A f us cs:=by assumption) (hA:A X.W0:=by assumption) (hM:MonoA A:=by infer_instance) (hF:Fun P f:=by infer_instance) (hg:gOk ops σ.s gd:=by first | exact trivial | exact rfl) (hd:dB X.n (some d)=true:=by exact rfl) (hf:(Nat.beq (σ.sz d) 0&&!cs.isEmpty)=true:=by exact rfl)
  (hl:RunK P X ops l (σ.app (some d) ⟨.one (.ptr d 0),[],[],[(d,cs)]⟩) (fun es σ'=>K (⟨.one (.ptr d 0),[],[],[(d,cs)]⟩::es) σ')):RunK P X ops (⟨some d,.call c,ty,pos,af,gd⟩::l) σ K:=
 v_callN hA hc hg hd hf hcl (Ents.of_eq has) hl
theorem a_callS {A:World→Prop} {c:Call} {f:FuncId} {us:List AV} {k len n:Nat} {b d:List C} {R:AV} (hcl:calleeOf σ.s c.callee=some (f,[]):=by exact rfl) (has:c.args.toList.map (evC σ.s)=us:=by exact rfl) (hc:CtrM P A f us [(k,b,d)] R:=by assumption) (hA:A X.W0:=by assumption) (hM:MonoA A:=by infer_instance) (hF:Fun P f:=by infer_instance) (hg:gOk ops σ.s gd:=by first | exact trivial | exact rfl) (hd:dB X.n dst=true:=by exact rfl)
  (hm1:c.args.toList.map (evC σ.s)= .one (.gl k len n)::us.tail:=by exact rfl) (hz:σ.sz k=b.length:=by exact rfl) (hm:RowX (σ.m k) b:=by first | exact rowX_row | exact rowX_laid) (hlen:0<len:=by omega) (hbd:b.length=d.length:=by assumption) (hb0:0<b.length:=by assumption)
  (hl:RunK P X ops l (σ.app dst ⟨R,[(k,0,b)],[(k,0,d)],[]⟩) (fun es σ'=>K (⟨R,[(k,0,b)],[(k,0,d)],[]⟩::es) σ')):RunK P X ops (⟨dst,.call c,ty,pos,af,gd⟩::l) σ K:=
 v_callS hA hc ⟨hlen,hbd,hb0⟩ hg hd hcl (Ents.of_eq has) hm1 hz hm hl
theorem a_callRN {A:World→Prop} {c:Call} {f:FuncId} {us caps:List AV} {k:Nat} {cs:List C} {R:AV} (hcl:calleeOf σ.s c.callee=some (f,caps):=by exact rfl) (has:c.args.toList.map (evC σ.s)++caps=us:=by exact rfl) (hc:CtrG P A f us [] [(k,cs)] R:=by assumption) (hA:A X.W0:=by assumption) (hM:MonoA A:=by infer_instance) (hF:Fun P f:=by infer_instance) (hg:gOk ops σ.s gd:=by first | exact trivial | exact rfl) (hd:dB X.n dst=true:=by exact rfl)
  (hne:0<cs.length:=by assumption) (hb:Nat.beq (σ.sz k) 0=true:=by exact rfl)
  (hl:RunK P X ops l (σ.app dst ⟨R,[],[],[(k,cs)]⟩) (fun es σ'=>K (⟨R,[],[],[(k,cs)]⟩::es) σ')):RunK P X ops (⟨dst,.call c,ty,pos,af,gd⟩::l) σ K:=
 v_callRN hA [] hc hne hg hd hcl (Ents.of_eq has) nil_all (by simp [ndB,hb]) hl
theorem a_idx {α:Type} {f:α→List D} {la:List α} {b:α} {t e:TypeId} {x y:Operand} {agg:Bool} {n bytes:Nat} {zv:Value} [S:Sle P t e agg n bytes zv] {ik:IntKind} {i:Int} (hx:evC σ.s x= .one (lsG n f la):=by exact rfl) (hy:evC σ.s y= .one (.v (.int ik i)):=by exact rfl) (ha:la[i.toNat]?=some b:=by assumption) (h0:0≤i:=by omega) (hg:gOk ops σ.s gd:=by first | exact trivial | exact rfl) (hd:dB X.n dst=true:=by exact rfl) (hf: ∀a,(f a).length=n:=by intro _;rfl)
  (hl:RunK P X ops l (σ.app dst ⟨.one (.fp (f b)),[],[],[]⟩) (fun es σ'=>K (⟨.one (.fp (f b)),[],[],[]⟩::es) σ')):RunK P X ops (⟨dst,.indexAddr t x y,ty,pos,af,gd⟩::l) σ K:=v_idx ha h0 hg hd hx hy hf hl
theorem a_idxG {t e:TypeId} {x y:Operand} {agg:Bool} {n bytes:Nat} {zv:Value} [S:Sle P t e agg n bytes zv] {k len:Nat} {ik:IntKind} {i:Int} (hx:evC σ.s x= .one (.gl k len n):=by exact rfl) (hy:evC σ.s y= .one (.v (.int ik i)):=by exact rfl) (hi:0≤i∧i<len:=by first | assumption | exact ⟨by omega,by omega⟩) (hg:gOk ops σ.s gd:=by first | exact trivial | exact rfl) (hd:dB X.n dst=true:=by exact rfl)
  (hl:RunK P X ops l (σ.app dst ⟨.one (.ptr k (i.toNat*n)),[],[],[]⟩) (fun es σ'=>K (⟨.one (.ptr k (i.toNat*n)),[],[],[]⟩::es) σ')):RunK P X ops (⟨dst,.indexAddr t x y,ty,pos,af,gd⟩::l) σ K:=v_idxG hi hg hd hx hy hl
theorem a_loadG {t:TypeId} {x:Operand} {agg:Bool} {n:Nat} [hT:Tsz P t agg n] {k m:Nat} {i:Int} {cs:List C} (hx:evC σ.s x= .one (.ptr k (i.toNat*m)):=by exact rfl) (hm:rdL (σ.m k) (i.toNat*m) n=cs:=by assumption) (hz:i.toNat*m+n≤σ.sz k:=by assumption) (hg:gOk ops σ.s gd:=by first | exact trivial | exact rfl) (hd:dB X.n dst=true:=by exact rfl) (hc:(Nat.blt 0 n&&(agg || Nat.beq n 1))=true:=by exact rfl)
  (hl:RunK P X ops l (σ.app dst ⟨mkA agg cs,[(k,i.toNat*m,cs)],[],[]⟩) (fun es σ'=>K (⟨mkA agg cs,[(k,i.toNat*m,cs)],[],[]⟩::es) σ')):RunK P X ops (⟨dst,.load t x,ty,pos,af,gd⟩::l) σ K:=v_loadG hz hm hg hd hx hc hl
theorem a_storeG {t:TypeId} {x y:Operand} {agg:Bool} {n:Nat} [hT:Tsz P t agg n] {k m:Nat} {i:Int} {av:AV} (hx:evC σ.s x= .one (.ptr k (i.toNat*m)):=by exact rfl) (hz:i.toNat*m+n≤σ.sz k:=by assumption) (hg:gOk ops σ.s gd:=by first | exact trivial | exact rfl) (hd:dB X.n dst=true:=by exact rfl) (hy:evC σ.s y=av:=by exact rfl) (hc:(Nat.beq (acells av).length n&&(isAggB av || Nat.beq n 1)&&Nat.blt 0 n&&(acells av).all nlB)=true:=by exact rfl)
  (hl:RunK P X ops l (σ.app dst ⟨.junk,[],[(k,i.toNat*m,acells av)],[]⟩) (fun es σ'=>K (⟨.junk,[],[(k,i.toNat*m,acells av)],[]⟩::es) σ')):RunK P X ops (⟨dst,.store t x y,ty,pos,af,gd⟩::l) σ K:=v_storeG hz hg hd hx hy hc hl
theorem a_make {d:Nat} {t e:TypeId} {lo co:Operand} {agg:Bool} {n bytes:Nat} {zv:Value} [S:Sle P t e agg n bytes zv] {kl kc:IntKind} {cap:Nat} (hx:evC σ.s lo= .one (.v (.int kl (cap:Nat))):=by exact rfl) (hy:evC σ.s co= .one (.v (.int kc (cap:Nat))):=by exact rfl) (hp:0<cap:=by omega) (hb:bytes*cap≤281474976710656:=by omega) (hb2:cap≤9223372036854775807:=by omega) (hg:gOk ops σ.s gd:=by first | exact trivial | exact rfl) (hd:dB X.n (some d)=true:=by exact rfl) (hf:Nat.beq (σ.sz d) 0=true:=by exact rfl)
  (hl:RunK P X ops l (σ.app (some d) ⟨.one (.gl d cap n),[],[],[(d,zerosC cap zv.cells.toList)]⟩) (fun es σ'=>K (⟨.one (.gl d cap n),[],[],[(d,zerosC cap zv.cells.toList)]⟩::es) σ')):RunK P X ops (⟨some d,.makeSlice t lo co,ty,pos,af,gd⟩::l) σ K:=v_make hp hb hb2 hg hd hx hy hf hl
theorem a_eqNil {t e u:TypeId} {x y:Operand} {agg:Bool} {n bytes:Nat} {zv:Value} [S:Sle P t e agg n bytes zv] {α:Type} {f:α→List D} {la:List α} (hx:evC σ.s x= .one (lsG n f la):=by exact rfl) (hne:la.flatMap f≠ []:=by assumption) (hg:gOk ops σ.s gd:=by first | exact trivial | exact rfl) (hd:dB X.n dst=true:=by exact rfl) (hy:evC σ.s y= .one (.v (.slice none 0 0)):=by exact rfl)
  (hl:RunK P X ops l (σ.app dst ⟨.one (.v (.bool false)),[],[],[]⟩) (fun es σ'=>K (⟨.one (.v (.bool false)),[],[],[]⟩::es) σ')):RunK P X ops (⟨dst,.binOp .eql t x y u,ty,pos,af,gd⟩::l) σ K:=v_eqNil hne hg hd hx hy hl
end
section
variable {P:Program} {X:Ctx} {σ σ':St} {Q:Exit→St→Prop} {id:Nat} {L:List Oper} {es:List Eff}
theorem aw_pa (hq:Q .normal σ') (hn:(L.all fun o=>match o.dst with | some t=>Nat.blt t X.n | none=>true)=true:=by kernel_rfl) (hr:RunK P X L L σ (fun e s=>e=es∧s=σ'):=by ((repeat (first | refine a_loadG (hl:=?_) | refine a_storeG (hl:=?_) | refine v_store (hl:=?_) | refine v_skip (hl:=?_) | refine v_move (hl:=?_) | refine v_assign (hl:=?_) | refine v_load (hl:=?_) | refine v_fieldAddr (hl:=?_) | refine v_box (hl:=?_) | refine v_alloc (hl:=?_) | refine v_buildS (hl:=?_) | refine v_buildA (hl:=?_) | refine v_extract (hl:=?_) | refine v_bin (hl:=?_) | refine v_field (hl:=?_) | refine v_index (hl:=?_) | refine v_nilCheck (hl:=?_) | refine v_not (hl:=?_) | refine v_pickT (hl:=?_) | refine v_pickF (hl:=?_) | refine v_makeFunc' (hl:=?_) | refine v_nilCheckFn (hl:=?_) | refine v_loadInt (hl:=?_) | refine v_len (hl:=?_) | refine v_eqBool (hl:=?_) | refine v_convert (hl:=?_) | refine v_neg' (hl:=?_) | refine v_max (hl:=?_) | refine v_min (hl:=?_) | refine v_lenS (hl:=?_) | refine v_loadF (hl:=?_) | refine v_fieldF (hl:=?_) | refine v_buildL (hl:=?_) | refine v_build0 (hl:=?_) | refine v_indexAddr (hl:=?_) | refine a_call (hl:=?_) | refine a_callR1 (hl:=?_) | refine a_callR2 (hl:=?_) | refine a_callR3 (hl:=?_) | refine a_callM (hl:=?_) | refine a_callN (hl:=?_) | refine a_callS (hl:=?_) | refine a_callRN (hl:=?_) | refine a_idx (hl:=?_) | refine a_idxG (hl:=?_) | refine a_make (hl:=?_) | refine a_eqNil (hl:=?_)));exact RunK.nil ⟨rfl,rfl⟩)):Aw P X (.region id L.toArray false) σ Q:=by
 obtain ⟨e,s,h1,rfl,rfl⟩:=hr
 exact aw_plain hn h1 hq
theorem aw_da (hq:Q .normal σ') (hm:P.follows .mixedOrders=true:=by kernel_rfl) (hd:dagB L=true:=by kernel_rfl) (hn:(L.all fun o=>match o.dst with | some t=>Nat.blt t X.n | none=>true)=true:=by kernel_rfl) (hr:RunK P X L L σ (fun e s=>e=es∧s=σ'):=by ((repeat (first | refine a_loadG (hl:=?_) | refine a_storeG (hl:=?_) | refine v_store (hl:=?_) | refine v_skip (hl:=?_) | refine v_move (hl:=?_) | refine v_assign (hl:=?_) | refine v_load (hl:=?_) | refine v_fieldAddr (hl:=?_) | refine v_box (hl:=?_) | refine v_alloc (hl:=?_) | refine v_buildS (hl:=?_) | refine v_buildA (hl:=?_) | refine v_extract (hl:=?_) | refine v_bin (hl:=?_) | refine v_field (hl:=?_) | refine v_index (hl:=?_) | refine v_nilCheck (hl:=?_) | refine v_not (hl:=?_) | refine v_pickT (hl:=?_) | refine v_pickF (hl:=?_) | refine v_makeFunc' (hl:=?_) | refine v_nilCheckFn (hl:=?_) | refine v_loadInt (hl:=?_) | refine v_len (hl:=?_) | refine v_eqBool (hl:=?_) | refine v_convert (hl:=?_) | refine v_neg' (hl:=?_) | refine v_max (hl:=?_) | refine v_min (hl:=?_) | refine v_lenS (hl:=?_) | refine v_loadF (hl:=?_) | refine v_fieldF (hl:=?_) | refine v_buildL (hl:=?_) | refine v_build0 (hl:=?_) | refine v_indexAddr (hl:=?_) | refine a_call (hl:=?_) | refine a_callR1 (hl:=?_) | refine a_callR2 (hl:=?_) | refine a_callR3 (hl:=?_) | refine a_callM (hl:=?_) | refine a_callN (hl:=?_) | refine a_callS (hl:=?_) | refine a_callRN (hl:=?_) | refine a_idx (hl:=?_) | refine a_idxG (hl:=?_) | refine a_make (hl:=?_) | refine a_eqNil (hl:=?_)));exact RunK.nil ⟨rfl,rfl⟩)) (hc:chk L es=true:=by kernel_rfl):Aw P X (.region id L.toArray true) σ Q:=by
 obtain ⟨e,s,h1,rfl,rfl⟩:=hr
 exact aw_draw hm hd hn h1 hc hq
theorem wk_a {ss:List (Nat×AV)} {bs:List (Nat×List C)} (h1: ∀p∈ss,Ent (σ.s p.1) p.2:=by (repeat (first | exact nil_all | (refine List.forall_mem_cons.2 ⟨?_,?_⟩;focus (first | exact Ent.of_eq rfl | (refine Ent.one' rfl ?_;(first | exact EntC.qs (by assumption) | exact EntC.ratsLe (by omega) | exact EntC.ratsNil | exact EntC.glNil | (refine EntC.int ?_;omega) | (refine EntC.glLen ?_;first | omega | simp) | exact EntC.of_eq rfl | (refine EntC.q rfl ?_;omega) | exact EntC.qe (by assumption) (by assumption) | exact Z0 _ | exact Z2 _ | exact EntC.z0 (k:=0) | exact EntC.z1 (k:=0) | exact EntC.z2 (k:=0) | exact EntC.z0 | exact EntC.z1 | exact EntC.z2)) | (refine Ent.agg' rfl ?_;(repeat (first | exact EntL.nil' rfl | (refine EntL.cons' rfl ?_ ?_;focus (first | exact EntC.qs (by assumption) | exact EntC.ratsLe (by omega) | exact EntC.ratsNil | exact EntC.glNil | (refine EntC.int ?_;omega) | (refine EntC.glLen ?_;first | omega | simp) | exact EntC.of_eq rfl | (refine EntC.q rfl ?_;omega) | exact EntC.qe (by assumption) (by assumption) | exact Z0 _ | exact Z2 _ | exact EntC.z0 (k:=0) | exact EntC.z1 (k:=0) | exact EntC.z2 (k:=0) | exact EntC.z0 | exact EntC.z1 | exact EntC.z2))));(first | done | fail))))))) (h2: ∀p∈bs,BlkOk σ (bs.map (·.1)) p:=by (repeat (first | exact nil_all | (refine List.forall_mem_cons.2 ⟨?_,?_⟩;focus (first | exact blk_keep inferInstance | (refine blk_set inferInstance (by omega) ?_;(repeat (first | exact EntL.nil' rfl | (refine EntL.cons' rfl ?_ ?_;focus (first | exact EntC.qs (by assumption) | exact EntC.ratsLe (by omega) | exact EntC.ratsNil | exact EntC.glNil | (refine EntC.int ?_;omega) | (refine EntC.glLen ?_;first | omega | simp) | exact EntC.of_eq rfl | (refine EntC.q rfl ?_;omega) | exact EntC.qe (by assumption) (by assumption) | exact Z0 _ | exact Z2 _ | exact EntC.z0 (k:=0) | exact EntC.z1 (k:=0) | exact EntC.z2 (k:=0) | exact EntC.z0 | exact EntC.z1 | exact EntC.z2))));(first | done | fail)) | (refine blk_zeros inferInstance ?_;(repeat (first | exact EntL.nil' rfl | (refine EntL.cons' rfl ?_ ?_;focus (first | exact EntC.qs (by assumption) | exact EntC.ratsLe (by omega) | exact EntC.ratsNil | exact EntC.glNil | (refine EntC.int ?_;omega) | (refine EntC.glLen ?_;first | omega | simp) | exact EntC.of_eq rfl | (refine EntC.q rfl ?_;omega) | exact EntC.qe (by assumption) (by assumption) | exact Z0 _ | exact Z2 _ | exact EntC.z0 (k:=0) | exact EntC.z1 (k:=0) | exact EntC.z2 (k:=0) | exact EntC.z0 | exact EntC.z1 | exact EntC.z2))));(first | done | fail)) | (refine blk_app inferInstance ?_;(repeat (first | exact EntL.nil' rfl | (refine EntL.cons' rfl ?_ ?_;focus (first | exact EntC.qs (by assumption) | exact EntC.ratsLe (by omega) | exact EntC.ratsNil | exact EntC.glNil | (refine EntC.int ?_;omega) | (refine EntC.glLen ?_;first | omega | simp) | exact EntC.of_eq rfl | (refine EntC.q rfl ?_;omega) | exact EntC.qe (by assumption) (by assumption) | exact Z0 _ | exact Z2 _ | exact EntC.z0 (k:=0) | exact EntC.z1 (k:=0) | exact EntC.z2 (k:=0) | exact EntC.z0 | exact EntC.z1 | exact EntC.z2))));(first | done | fail)) | exact blk_apps (la:= []) inferInstance | (refine blk_ok rfl ?_ rfl;(repeat (first | exact EntL.nil' rfl | (refine EntL.cons' rfl ?_ ?_;focus (first | exact EntC.qs (by assumption) | exact EntC.ratsLe (by omega) | exact EntC.ratsNil | exact EntC.glNil | (refine EntC.int ?_;omega) | (refine EntC.glLen ?_;first | omega | simp) | exact EntC.of_eq rfl | (refine EntC.q rfl ?_;omega) | exact EntC.qe (by assumption) (by assumption) | exact Z0 _ | exact Z2 _ | exact EntC.z0 (k:=0) | exact EntC.z1 (k:=0) | exact EntC.z2 (k:=0) | exact EntC.z0 | exact EntC.z1 | exact EntC.z2))));(first | done | fail)))))))
  (hb:((ss.all fun p=>inA (bs.map (·.1)) p.2)&&ndB (bs.map (·.1))&&(X.ps.all fun k=>(bs.map (·.1)).any (Nat.beq k)))=true:=by exact rfl):Wk X σ ss bs:=wk_mk h1 h2 hb
end
end Go.Proofs.YtnkobfcnflphkaaGreatDoor
namespace Go.Proofs.YtnkobfcnflphkaaGreatDoor
open Go.RowKit
set_option linter.unusedVariables false
set_option linter.unusedSimpArgs false
section
variable {P:Program} {X:Ctx} {ops l:List Oper} {σ:St} {K:List Eff→St→Prop} {s:Nat→AV} {z:Nat→Nat}
variable {dst:Option Tmp} {ty:TypeId} {pos:String} {af:Array Edge} {gd:Option (Nat×Bool)}
end
theorem ddL_qr {W0 w:World} {b j k:Nat} : ∀ {l:List Rat} {off:Nat},(∀r∈l,RSz k r)→ddL W0 w b off (l.flatMap (nmD j))→ddL W0 w b off (l.flatMap (nmD k))
 | [],_,_,hd=>hd
 | x::l,off,h,hd=>by
   rw [List.flatMap_cons] at hd⊢
   show ddL W0 w b off (.q x k 0:: .q x k 1:: .q x k 2::l.flatMap (nmD k))
   replace hd:ddL W0 w b off (.q x j 0:: .q x j 1:: .q x j 2::l.flatMap (nmD j)):=hd
   have hx:=h x List.mem_cons_self
   simp only [ddL] at hd⊢
   obtain ⟨⟨v0,a0,a1,a2⟩,⟨v1,b0,b1,b2⟩,⟨v2,c0,c1,c2⟩,r⟩:=hd
   exact ⟨⟨v0,a0,a1,⟨a2.1,Nat.zero_le _⟩⟩,⟨v1,b0,b1,⟨b2.1,hx.1⟩⟩,⟨v2,c0,c1,⟨c2.1,dnOf_sz hx.2⟩⟩,ddL_qr (fun r hr=>h r (List.mem_cons_of_mem _ hr)) r⟩
theorem EntC.ratsRs {j k:Nat} {l:List Rat} (h: ∀r∈l,RSz k r):EntC (rats j l) (rats k l):=fun W0 μ sz w x hx=>by
 unfold cc dd at hx⊢
 obtain ⟨h0,ao,cap,h1,h2,h3⟩:=hx
 refine ⟨flat_len (f:=nmD k) (es:=3) (fun _=>rfl) l,ao,cap,h1,h2,fun hne=>?_⟩
 have hne':l.flatMap (nmD j)≠ []:=fun h0=>by
  cases l with
  | nil=>exact hne rfl
  | cons a l=>cases h0
 obtain ⟨b,off,h4,h5⟩:=h3 hne'
 exact ⟨b,off,h4,ddL_qr h h5⟩
theorem Ctr.short1 {P:Program} {A:World→Prop} {f:FuncId} {j k:Nat} {l:List Rat} {us:List AV} {R:AV} (h:Ctr P A f (.one (rats k l)::us) R) (hs: ∀r∈l,RSz k r):Ctr P A f (.one (rats j l)::us) R:=by
 have key: ∀us,Ents us us:=by
  intro us
  induction us with
  | nil=>exact .nil
  | cons a us ih=>exact .cons (Ent.of_eq rfl) ih
 exact CtrM.weak h (.cons (Ent.one' rfl (EntC.ratsRs hs)) (key us)) (Ent.of_eq rfl)
theorem Ctr.short2 {P:Program} {A:World→Prop} {f:FuncId} {j k i m:Nat} {l l':List Rat} {R:AV} (h:Ctr P A f [.one (rats k l),.one (rats m l')] R) (hs: ∀r∈l,RSz k r) (hs2: ∀r∈l',RSz m r):Ctr P A f [.one (rats j l),.one (rats i l')] R:=
 CtrM.weak h (.cons (Ent.one' rfl (EntC.ratsRs hs)) (.cons (Ent.one' rfl (EntC.ratsRs hs2)) .nil)) (Ent.of_eq rfl)
end Go.Proofs.YtnkobfcnflphkaaGreatDoor
namespace Go.Proofs.YtnkobfcnflphkaaGreatDoor
open Go.RowKit
set_option linter.unusedVariables false
set_option linter.unusedSimpArgs false
set_option maxRecDepth 20000
set_option maxHeartbeats 4000000
theorem f_twoN {P:Program} {r1 r2:ResultVar} {R a b:AV} {σ:St} {ns:List (Nat×List C)} (hn: ∀q∈ns,BlkOk σ [] q∨BlkOk σ (ns.map (·.1)) q) (h1:ResIs P σ r1 a:=by first | exact ResIs.tmp rfl | exact ResIs.cell inferInstance rfl rfl rfl rfl) (h2:ResIs P σ r2 b:=by first | exact ResIs.tmp rfl | exact ResIs.cell inferInstance rfl rfl rfl rfl) (ha:([a,b].all fun a=>match a with | .tup _=>false | _=>true)=true:=by exact rfl) (hE:Ent (.tup [a,b]) R:=by exact Ent.of_eq rfl):Fin P [r1,r2] [] R σ∧FinN ns σ:=
 ⟨fin_two h1 h2 ha hE,fun q hq=>by rcases hn q hq with h | h<;>exact h.1⟩
theorem f_three {P:Program} {r1 r2 r3:ResultVar} {R a b c:AV} {σ:St} (h1:ResIs P σ r1 a:=by first | exact ResIs.tmp rfl | exact ResIs.cell inferInstance rfl rfl rfl rfl) (h2:ResIs P σ r2 b:=by first | exact ResIs.tmp rfl | exact ResIs.cell inferInstance rfl rfl rfl rfl) (h3:ResIs P σ r3 c:=by first | exact ResIs.tmp rfl | exact ResIs.cell inferInstance rfl rfl rfl rfl) (ha:([a,b,c].all fun a=>match a with | .tup _=>false | _=>true)=true:=by exact rfl) (hE:Ent (.tup [a,b,c]) R:=by exact Ent.of_eq rfl):Fin P [r1,r2,r3] [] R σ:=
 ⟨⟨[a,b,c],.cons h1 (.cons h2 (.cons h3 .nil)),.inr ha,hE⟩,fun p hp=>by cases hp⟩
theorem s_over {j k:Nat} {x y:Rat} (hj:j≤100000000) (hk:k≤100000000) (h0:y≠0):Ctr Tryz.prog Amb 103 [nm j x,nm k y] (nm (j+k+2) (x/y)):=by
 have Q1:=c_quo (j:=j) (k:=k) (x:=x) (y:=y) hj hk h0
 refine ctr_body Tryz.func103 rfl rfl rfl rfl rfl rfl ?_
 intro W0 base D μ0 hA hD
 repeat (first | refine aw_seq ?_ | refine aw_block ?_ | refine aw_condT rfl ?_ | refine aw_condF rfl ?_ | refine aw_pa ?_ | refine aw_da ?_ | refine aw_skip ?_ | refine aw_exit ?_)
 refine aw_ret (And.intro (Or.inr rfl) ?_)
 exact f_one
theorem s_ratio {j:Nat} {t:Rat} (hj:j≤10000000):Ctr Tryz.prog Amb 120 [nm j t] (.tup [nm (2*j+4) (t*denQ t),nm (3*j+9) (denQ t-t*denQ t),nm (j+2) (denQ t)]):=by
 have D1:=c_den (j:=j) (x:=t) (by omega)
 have M1:=c_mul (j:=j) (k:=j+2) (x:=t) (y:=denQ t) (by omega) (by omega)
 have S1:=c_sub (j:=j+2) (k:=j+(j+2)+2) (x:=denQ t) (y:=t*denQ t) (by omega) (by omega)
 refine ctr_body Tryz.func120 rfl rfl rfl rfl rfl rfl ?_
 intro W0 base D μ0 hA hD
 repeat (first | refine aw_seq ?_ | refine aw_block ?_ | refine aw_condT rfl ?_ | refine aw_condF rfl ?_ | refine aw_pa ?_ | refine aw_da ?_ | refine aw_skip ?_ | refine aw_exit ?_)
 refine aw_ret (And.intro (Or.inr rfl) ?_)
 exact f_three (hE:=(by first | exact Ent.of_eq rfl | (refine Ent.tup rfl ?_;(repeat (first | exact EntT.nil | (refine EntT.cons ?_ rfl rfl ?_;focus (first | exact Ent.of_eq rfl | (refine Ent.agg' rfl ?_;(repeat (first | exact EntL.nil' rfl | (refine EntL.cons' rfl ?_ ?_;focus (first | exact EntC.of_eq rfl | (refine EntC.q rfl ?_;omega) | exact Z0 _ | exact Z2 _ | exact EntC.z0 (k:=0) | exact EntC.z1 (k:=0) | exact EntC.z2 (k:=0) | exact EntC.z0 | exact EntC.z1 | exact EntC.z2))));done) | (refine Ent.one' rfl ?_;(first | exact EntC.of_eq rfl | (refine EntC.q rfl ?_;omega) | exact Z0 _ | exact Z2 _ | exact EntC.z0 (k:=0) | exact EntC.z1 (k:=0) | exact EntC.z2 (k:=0) | exact EntC.z0 | exact EntC.z1 | exact EntC.z2))))));done)))
def geoR (a q:Rat) (i:Nat):Rat:=a*q^i
theorem geoR_zero (a q:Rat):geoR a q 0=a:=by unfold geoR;rw [Rat.pow_zero,Rat.mul_one]
theorem geoR_succ (a q:Rat) (i:Nat):geoR a q (i+1)=geoR a q i*q:=by unfold geoR;rw [Rat.pow_succ,Rat.mul_assoc]
theorem s_geometric {ja jq n J:Nat} {a q:Rat} (h1:ja≤10000000) (h2:jq≤10000000) (h3:J≤10000000) (hn:n≤1000) (hJ: ∀i,i≤n→RSz J (geoR a q i)):
  Ctr Tryz.prog Amb 122 [nm ja a,nm jq q,errV (n:Nat)] (.one (ratT J (n+1) (geoR a q))):=by
 have h0:=hJ 0 (Nat.zero_le _)
 rw [geoR_zero] at h0
 refine ctr_body Tryz.func122 rfl rfl rfl rfl rfl rfl ?_
 intro W0 base D μ0 hA hD
 repeat (first | refine aw_seq ?_ | refine aw_block ?_ | refine aw_condT rfl ?_ | refine aw_condF rfl ?_ | refine aw_pa ?_ | refine aw_da ?_ | refine aw_skip ?_ | refine aw_exit ?_)
 refine aw_loop (fun m σ=> ∃(i:Nat) (done:List Rat),m=n-i∧i≤n∧done=tab (i+1) (geoR a q)∧Wk ⟨W0,base,D,26,[],μ0⟩ σ [(4,.one (.ptr 4 0)),(7,.one (.gl 10 done.length 3)),(11,errV (n:Nat)),(12,errV (i:Nat))] [(10,blkL (nmD J) done),(4,nmC jq q)]) (n:=n) ⟨0,[a],by omega,by omega,by simp [tab,geoR_zero],?_⟩ ?_
 ·exact wk_a
 intro m σ hI
 obtain ⟨i,done,hm,hi0,hdone,hw⟩:=hI
 refine aw_wk hw ?_
 clear hw
 have hdl:done.length=i+1:=by rw [hdone];simp
 by_cases hi:i<n
 ·have bi:=binLt (k:= .i64) (decide_eq_true (show (i:Int)<(n:Int) by omega))
  have hin:=binAdd (k:= .i64) (show (IntKind.i64).wrap ((i:Int)+1)=((i+1:Nat):Int) from IntWalk.i64_in _ (by omega))
  have hx:done[((i:Nat):Int).toNat]?=some (geoR a q i):=by rw [hdone];exact tab_at (by omega)
  have lt1:(0:Int)≤((i:Nat):Int)∧((i:Nat):Int)<(done.length:Nat):=by omega
  have st1:((i:Nat):Int).toNat*3+3≤(blkL (nmD J) done).length:=by rw [blkL_len (n:=3) inferInstance,Int.toNat_natCast];omega
  have ld1:=rdL_row (f:=nmD J) (n:=3) inferInstance hx
  have M1:=c_mul (j:=J) (k:=jq) (x:=geoR a q i) (y:=q) (by omega) (by omega)
  have hs:=hJ (i+1) (by omega)
  rw [geoR_succ] at hs
  have ht:done++ [geoR a q i*q]=tab (i+1+1) (geoR a q):=by rw [hdone,←geoR_succ];exact tab_succ
  generalize geoR a q i=x at*
  repeat (first | refine aw_seq ?_ | refine aw_block ?_ | refine aw_condT rfl ?_ | refine aw_condF rfl ?_ | refine aw_pa ?_ | refine aw_da ?_ | refine aw_skip ?_ | refine aw_exit ?_)
  try refine aw_seq ?_
  refine aw_drawT 8 (by simp only [List.take_succ_cons,List.take_zero,List.drop_succ_cons,List.drop_zero];exact ⟨rfl,rfl⟩) (by kernel_rfl) (by kernel_rfl) (by kernel_rfl) (by kernel_rfl) (by kernel_rfl) ?_
  repeat (first
   | refine v_loadG (k:=10) st1 ld1 (hl:=?_)
   | refine v_move (hl:=?_)
   | refine v_assign (hl:=?_)
   | refine v_load (hl:=?_)
   | refine v_box (hl:=?_)
   | refine v_bin (hl:=?_)
   | refine v_indexAddr (hl:=?_)
   | refine v_max (hl:=?_)
   | refine v_min (hl:=?_)
   | refine v_len (hl:=?_)
   | refine v_loadF (hl:=?_)
   | refine v_buildL (hl:=?_)
   | refine v_idxG lt1 (hl:=?_)
   | refine v_callE hA (hc:=M1) (hl:=?_))
  apply RunK.nil
  refine And.intro (by kernel_rfl) ?_
  refine v_app (k:=10) (ss:= [(4,.one (.ptr 4 0)),(11,errV (n:Nat)),(12,errV (i:Nat))]) (bs:= [(4,nmC jq q)]) (ns:=(nmC (J+jq+2) (x*q))) hD ?_ ?_ ?_
  ·exact ⟨by omega,by omega⟩
  ·exact wk_a
  repeat (refine tl_run rfl ?_;(first | refine v_assign (hl:=?_) | refine v_move (hl:=?_) | refine v_store (hl:=?_));apply RunK.nil)
  refine tl_nil ?_
  repeat (first | refine aw_seq ?_ | refine aw_block ?_ | refine aw_condT rfl ?_ | refine aw_condF rfl ?_ | refine aw_pa ?_ | refine aw_da ?_ | refine aw_skip ?_ | refine aw_exit ?_)
  refine ⟨m-1,by omega,i+1,done++ [x*q],by omega,by omega,ht,?_⟩
  exact wk_a
 ·have bi:=binLt (k:= .i64) (decide_eq_false (show ¬(i:Int)<(n:Int) by omega))
  obtain rfl:i=n:=by omega
  repeat (first | refine aw_seq ?_ | refine aw_block ?_ | refine aw_condT rfl ?_ | refine aw_condF rfl ?_ | refine aw_pa ?_ | refine aw_da ?_ | refine aw_skip ?_ | refine aw_exit ?_)
  refine aw_freeze 10 hD (ss:= [(6,.one (rats J done))]) (bs:= []) ?_ ?_
  ·refine fk_mk ?_ ?_ rfl
   ·repeat (first | exact nil_all | (refine List.forall_mem_cons.2 ⟨?_,?_⟩;focus (first | exact fz_blk inferInstance | refine FzA.ent ?_;first | exact Ent.of_eq rfl | (refine Ent.one' rfl ?_;(first | exact EntC.ratsLe (by omega) | exact EntC.ratsNil | exact EntC.glNil | (refine EntC.int ?_;omega) | (refine EntC.glLen ?_;first | omega | simp) | exact EntC.of_eq rfl | (refine EntC.q rfl ?_;omega) | exact Z0 _ | exact Z2 _ | exact EntC.z0 (k:=0) | exact EntC.z1 (k:=0) | exact EntC.z2 (k:=0) | exact EntC.z0 | exact EntC.z1 | exact EntC.z2)) | (refine Ent.agg' rfl ?_;(repeat (first | exact EntL.nil' rfl | (refine EntL.cons' rfl ?_ ?_;focus (first | exact EntC.ratsLe (by omega) | exact EntC.ratsNil | exact EntC.glNil | (refine EntC.int ?_;omega) | (refine EntC.glLen ?_;first | omega | simp) | exact EntC.of_eq rfl | (refine EntC.q rfl ?_;omega) | exact Z0 _ | exact Z2 _ | exact EntC.z0 (k:=0) | exact EntC.z1 (k:=0) | exact EntC.z2 (k:=0) | exact EntC.z0 | exact EntC.z1 | exact EntC.z2))));done))))
   ·repeat (first | exact nil_all | (refine List.forall_mem_cons.2 ⟨?_,?_⟩;focus (first | exact blk_keep inferInstance | (refine blk_ok rfl ?_ rfl;focus ((repeat (first | exact EntL.nil' rfl | (refine EntL.cons' rfl ?_ ?_;focus (first | exact EntC.ratsLe (by omega) | exact EntC.ratsNil | exact EntC.glNil | (refine EntC.int ?_;omega) | (refine EntC.glLen ?_;first | omega | simp) | exact EntC.of_eq rfl | (refine EntC.q rfl ?_;omega) | exact Z0 _ | exact Z2 _ | exact EntC.z0 (k:=0) | exact EntC.z1 (k:=0) | exact EntC.z2 (k:=0) | exact EntC.z0 | exact EntC.z1 | exact EntC.z2))));done)))))
  subst hdone
  refine aw_ret (And.intro (Or.inr rfl) ?_)
  exact f_one
theorem s_scheme {ju jd n J:Nat} {u d:Rat} {f:Nat→Rat} (h1:ju≤10000000) (h2:jd≤10000000) (h3:J≤10000000) (hn:n≤1000) (hJ: ∀k i,k+i≤n→RSz J (casR u d f k i)):
  CtrM Tryz.prog Amb 121 [.one (.gl 26 (n+1) 3),nm ju u,nm jd d] [(26,blkL (nmD J) (tab (n+1) f),blkL (nmD J) (tab (n+1) fun q=>casR u d f (n-q) q))] (.one (ratT J (n+1) fun k=>casR u d f k 0)):=by
 have hdn:=binSub (k:= .i64) (show (IntKind.i64).wrap (((n+1:Nat):Int)-1)=(n:Int) by rw [show (((n+1:Nat):Int)-1)=(n:Int) by omega];exact IntWalk.i64_in _ (by omega))
 obtain ⟨R,hR⟩: ∃R,R=tab (n+1) fun q=>casR u d f (n-q) q:=⟨_,rfl⟩
 obtain ⟨L,hL⟩: ∃L,L=tab (n+1) f:=⟨_,rfl⟩
 rw [←hR,←hL]
 have hLl:L.length=n+1:=by rw [hL];simp
 have hst:=casI_start (u:=u) (d:=d) (f:=f) (n:=n)
 rw [←hL] at hst
 apply ctr_body Tryz.func121 rfl rfl rfl rfl
 case hpf=>
  simp only [List.all_cons,List.all_nil,Bool.and_true,Bool.and_eq_true]
  exact ⟨rfl,blkL_pf _,blkL_pf _⟩
 case hin=>simp [inA,inC]
 intro W0 base D μ0 hA hD
 have hx0:L[((0:Nat):Int).toNat]?=some (f 0):=by rw [hL];exact tab_at (by omega)
 have lt0:(0:Int)≤((0:Nat):Int)∧((0:Nat):Int)<((n+1:Nat):Int):=by omega
 have st0:((0:Nat):Int).toNat*3+3≤(blkL (nmD J) L).length:=by rw [blkL_len (n:=3) inferInstance,Int.toNat_natCast];omega
 have ld0:=rdL_row (f:=nmD J) (n:=3) inferInstance hx0
 repeat (first | refine aw_seq ?_ | refine aw_block ?_ | refine aw_condT rfl ?_ | refine aw_condF rfl ?_ | refine aw_pa ?_ | refine aw_da ?_ | refine aw_skip ?_ | refine aw_exit ?_)
 refine aw_loop (fun m σ=> ∃(s:Nat) (cur done:List Rat),m=n-s∧s≤n∧cur=tab (n+1) (casI u d f n s 0)∧done=tab (s+1) (fun k=>casR u d f k 0)∧Wk ⟨W0,base,D,54,[26],μ0⟩ σ [(0,.one (.gl 26 (n+1) 3)),(4,.one (.ptr 4 0)),(5,.one (.ptr 5 0)),(7,errV (n:Nat)),(8,.one (.gl 17 done.length 3)),(18,errV (n:Nat)),(19,errV (s:Nat))] [(26,blkL (nmD J) cur),(17,blkL (nmD J) done),(4,nmC ju u),(5,nmC jd d)]) (n:=n) ⟨0,L,[f 0],by omega,by omega,hst.symm,by simp [tab,casR],?_⟩ ?_
 ·exact wk_a
 intro m σ hI
 obtain ⟨s,cur,done,hm,hs0,hcur,hdone,hw⟩:=hI
 refine aw_wk hw ?_
 clear hw hst hx0 ld0 st0 lt0
 have hdl:done.length=s+1:=by rw [hdone];simp
 by_cases hs:s<n
 ·have bs:=binLt (k:= .i64) (decide_eq_true (show (s:Int)<(n:Int) by omega))
  have hsn:=binSub (k:= .i64) (show (IntKind.i64).wrap ((n:Int)-(s:Int))=((n-s:Nat):Int) by rw [show ((n:Int)-(s:Int))=((n-s:Nat):Int) by omega];exact IntWalk.i64_in _ (by omega))
  repeat (first | refine aw_seq ?_ | refine aw_block ?_ | refine aw_condT rfl ?_ | refine aw_condF rfl ?_ | refine aw_pa ?_ | refine aw_da ?_ | refine aw_skip ?_ | refine aw_exit ?_)
  refine aw_loop (fun b σ=> ∃(i:Nat) (cur:List Rat),b=n-s-i∧i≤n-s∧cur=tab (n+1) (casI u d f n s i)∧Wk ⟨W0,base,D,54,[26],μ0⟩ σ [(0,.one (.gl 26 (n+1) 3)),(4,.one (.ptr 4 0)),(5,.one (.ptr 5 0)),(7,errV (n:Nat)),(8,.one (.gl 17 done.length 3)),(18,errV (n:Nat)),(19,errV (s:Nat)),(24,errV ((n-s:Nat):Int)),(25,errV (i:Nat))] [(26,blkL (nmD J) cur),(17,blkL (nmD J) done),(4,nmC ju u),(5,nmC jd d)]) (n:=n-s) ⟨0,cur,by omega,by omega,hcur,?_⟩ ?_
  ·exact wk_a
  clear hcur cur
  intro b σ hI
  obtain ⟨i,cur,hb,hi0,hcur,hw⟩:=hI
  refine aw_wk hw ?_
  clear hw
  have hcl:cur.length=n+1:=by rw [hcur];simp
  by_cases hi:i<n-s
  ·have bi:=binLt (k:= .i64) (decide_eq_true (show (i:Int)<((n-s:Nat):Int) by omega))
   have hin:=binAdd (k:= .i64) (show (IntKind.i64).wrap ((i:Int)+1)=((i+1:Nat):Int) from IntWalk.i64_in _ (by omega))
   have hx:cur[((i:Nat):Int).toNat]?=some (casR u d f s i):=by rw [hcur,←casI_at (u:=u) (d:=d) (f:=f) (n:=n) (k:=s) (i:=i) (q:=i) (by omega) (by omega)];exact tab_at (by omega)
   have hy:cur[((i+1:Nat):Int).toNat]?=some (casR u d f s (i+1)):=by rw [hcur,←casI_at (u:=u) (d:=d) (f:=f) (n:=n) (k:=s) (i:=i) (q:=i+1) (by omega) (by omega)];exact tab_at (by omega)
   have lt1:(0:Int)≤((i:Nat):Int)∧((i:Nat):Int)<((n+1:Nat):Int):=by omega
   have lt2:(0:Int)≤((i+1:Nat):Int)∧((i+1:Nat):Int)<((n+1:Nat):Int):=by omega
   have st1:((i:Nat):Int).toNat*3+3≤(blkL (nmD J) cur).length:=by rw [blkL_len (n:=3) inferInstance,Int.toNat_natCast];omega
   have st2:((i+1:Nat):Int).toNat*3+3≤(blkL (nmD J) cur).length:=by rw [blkL_len (n:=3) inferInstance,Int.toNat_natCast];omega
   have ld1:=rdL_row (f:=nmD J) (n:=3) inferInstance hx
   have ld2:=rdL_row (f:=nmD J) (n:=3) inferInstance hy
   have M1:=c_mul (j:=jd) (k:=J) (x:=d) (y:=casR u d f s i) (by omega) (by omega)
   have M2:=c_mul (j:=ju) (k:=J) (x:=u) (y:=casR u d f s (i+1)) (by omega) (by omega)
   have A1:=c_add (j:=jd+J+2) (k:=ju+J+2) (x:=d*casR u d f s i) (y:=u*casR u d f s (i+1)) (by omega) (by omega)
   have hz:=hJ (s+1) i (by omega)
   have ht:=casI_set (u:=u) (d:=d) (f:=f) (n:=n) (k:=s) (i:=i) (by omega) rfl
   rw [←hcur] at ht
   replace hz:RSz J (d*casR u d f s i+u*casR u d f s (i+1)):=hz
   generalize casR u d f s i=x at*
   generalize casR u d f s (i+1)=y at*
   repeat (first | refine aw_seq ?_ | refine aw_block ?_ | refine aw_condT rfl ?_ | refine aw_condF rfl ?_ | refine aw_pa ?_ | refine aw_da ?_ | refine aw_skip ?_ | refine aw_exit ?_)
   refine ⟨b-1,by omega,i+1,cur.set i (d*x+u*y),by omega,by omega,ht,?_⟩
   exact wk_a
  ·have bi:=binLt (k:= .i64) (decide_eq_false (show ¬(i:Int)<((n-s:Nat):Int) by omega))
   obtain rfl:i=n-s:=by omega
   have hin:=binAdd (k:= .i64) (show (IntKind.i64).wrap ((s:Int)+1)=((s+1:Nat):Int) from IntWalk.i64_in _ (by omega))
   rw [casI_step (by omega)] at hcur
   have hx:cur[((0:Nat):Int).toNat]?=some (casR u d f (s+1) 0):=by rw [hcur,←casI_at (u:=u) (d:=d) (f:=f) (n:=n) (k:=s+1) (i:=0) (q:=0) (by omega) (by omega)];exact tab_at (by omega)
   have lt1:(0:Int)≤((0:Nat):Int)∧((0:Nat):Int)<((n+1:Nat):Int):=by omega
   have st1:((0:Nat):Int).toNat*3+3≤(blkL (nmD J) cur).length:=by rw [blkL_len (n:=3) inferInstance,Int.toNat_natCast];omega
   have ld1:=rdL_row (f:=nmD J) (n:=3) inferInstance hx
   have ht:done++ [casR u d f (s+1) 0]=tab (s+1+1) fun k=>casR u d f k 0:=by rw [hdone];exact tab_succ (g:=fun k=>casR u d f k 0)
   generalize casR u d f (s+1) 0=x at*
   repeat (first | refine aw_seq ?_ | refine aw_block ?_ | refine aw_condT rfl ?_ | refine aw_condF rfl ?_ | refine aw_pa ?_ | refine aw_da ?_ | refine aw_skip ?_ | refine aw_exit ?_)
   try refine aw_seq ?_
   refine aw_plainT 5 (by simp only [List.take_succ_cons,List.take_zero,List.drop_succ_cons,List.drop_zero];exact ⟨rfl,rfl⟩) (by kernel_rfl) ?_
   repeat (first
    | refine v_loadG (k:=26) st1 ld1 (hl:=?_)
    | refine v_move (hl:=?_)
    | refine v_assign (hl:=?_)
    | refine v_load (hl:=?_)
    | refine v_store (hl:=?_)
    | refine v_box (hl:=?_)
    | refine v_bin (hl:=?_)
    | refine v_indexAddr (hl:=?_)
    | refine v_max (hl:=?_)
    | refine v_min (hl:=?_)
    | refine v_len (hl:=?_)
    | refine v_lenS (hl:=?_)
    | refine v_loadF (hl:=?_)
    | refine v_buildL (hl:=?_)
    | refine v_idxG lt1 (hl:=?_))
   apply RunK.nil
   refine v_app (k:=17) (ss:= [(0,.one (.gl 26 (n+1) 3)),(4,.one (.ptr 4 0)),(5,.one (.ptr 5 0)),(7,errV (n:Nat)),(18,errV (n:Nat)),(19,errV (s:Nat))]) (bs:= [(26,blkL (nmD J) cur),(4,nmC ju u),(5,nmC jd d)]) (ns:=(nmC J x)) hD ?_ ?_ ?_
   ·exact ⟨by omega,by omega⟩
   ·exact wk_a
   repeat (refine tl_run rfl ?_;(first | refine v_assign (hl:=?_) | refine v_move (hl:=?_) | refine v_store (hl:=?_));apply RunK.nil)
   refine tl_nil ?_
   repeat (first | refine aw_seq ?_ | refine aw_block ?_ | refine aw_condT rfl ?_ | refine aw_condF rfl ?_ | refine aw_pa ?_ | refine aw_da ?_ | refine aw_skip ?_ | refine aw_exit ?_)
   refine ⟨m-1,by omega,s+1,cur,done++ [x],by omega,by omega,hcur,ht,?_⟩
   exact wk_a
 ·have bs:=binLt (k:= .i64) (decide_eq_false (show ¬(s:Int)<(n:Int) by omega))
  obtain rfl:s=n:=by omega
  rw [casI_end,←hR] at hcur
  subst hcur
  repeat (first | refine aw_seq ?_ | refine aw_block ?_ | refine aw_condT rfl ?_ | refine aw_condF rfl ?_ | refine aw_pa ?_ | refine aw_da ?_ | refine aw_skip ?_ | refine aw_exit ?_)
  refine aw_freeze 17 hD (ss:= [(6,.one (rats J done))]) (bs:= [(26,blkL (nmD J) cur)]) ?_ ?_
  ·refine fk_mk ?_ ?_ rfl
   ·repeat (first | exact nil_all | (refine List.forall_mem_cons.2 ⟨?_,?_⟩;focus (first | exact fz_blk inferInstance | refine FzA.ent ?_;first | exact Ent.of_eq rfl | (refine Ent.one' rfl ?_;(first | exact EntC.ratsLe (by omega) | exact EntC.ratsNil | exact EntC.glNil | (refine EntC.int ?_;omega) | (refine EntC.glLen ?_;first | omega | simp) | exact EntC.of_eq rfl | (refine EntC.q rfl ?_;omega) | exact Z0 _ | exact Z2 _ | exact EntC.z0 (k:=0) | exact EntC.z1 (k:=0) | exact EntC.z2 (k:=0) | exact EntC.z0 | exact EntC.z1 | exact EntC.z2)) | (refine Ent.agg' rfl ?_;(repeat (first | exact EntL.nil' rfl | (refine EntL.cons' rfl ?_ ?_;focus (first | exact EntC.ratsLe (by omega) | exact EntC.ratsNil | exact EntC.glNil | (refine EntC.int ?_;omega) | (refine EntC.glLen ?_;first | omega | simp) | exact EntC.of_eq rfl | (refine EntC.q rfl ?_;omega) | exact Z0 _ | exact Z2 _ | exact EntC.z0 (k:=0) | exact EntC.z1 (k:=0) | exact EntC.z2 (k:=0) | exact EntC.z0 | exact EntC.z1 | exact EntC.z2))));done))))
   ·repeat (first | exact nil_all | (refine List.forall_mem_cons.2 ⟨?_,?_⟩;focus (first | exact blk_keep inferInstance | (refine blk_ok rfl ?_ rfl;focus ((repeat (first | exact EntL.nil' rfl | (refine EntL.cons' rfl ?_ ?_;focus (first | exact EntC.ratsLe (by omega) | exact EntC.ratsNil | exact EntC.glNil | (refine EntC.int ?_;omega) | (refine EntC.glLen ?_;first | omega | simp) | exact EntC.of_eq rfl | (refine EntC.q rfl ?_;omega) | exact Z0 _ | exact Z2 _ | exact EntC.z0 (k:=0) | exact EntC.z1 (k:=0) | exact EntC.z2 (k:=0) | exact EntC.z0 | exact EntC.z1 | exact EntC.z2))));done)))))
  subst hdone
  refine aw_ret (And.intro (Or.inr rfl) ⟨(f_one (hE:=Ent.of_eq rfl)).1,?_⟩)
  exact List.forall_mem_cons.2 ⟨(blk_keep (ks:= []) inferInstance).1,nil_all⟩
end Go.Proofs.YtnkobfcnflphkaaGreatDoor
namespace Go.Proofs.YtnkobfcnflphkaaGreatDoor
open Go.RowKit
set_option linter.unusedVariables false
set_option linter.unusedSimpArgs false
set_option maxRecDepth 20000
set_option maxHeartbeats 4000000
theorem s_permittedB {j:Nat} {l:List Rat} (h1:0<l.length) (h2:l.length≤41):Ctr Tryz.prog Amb 98 [.one (rats j l)] (.one (.v (.bool true))):=by
 have b1:=binGt (k:= .i64) (decide_eq_true (show (l.length:Int)>0 by omega))
 have b2:=binLe (k:= .i64) (decide_eq_true (show (l.length:Int)≤41 by omega))
 refine ctr_body Tryz.func98 rfl rfl rfl rfl rfl rfl ?_
 intro W0 base D μ0 hA hD
 repeat (first | refine aw_seq ?_ | refine aw_block ?_ | refine aw_condT rfl ?_ | refine aw_condF rfl ?_ | refine aw_pa ?_ | refine aw_da ?_ | refine aw_skip ?_ | refine aw_exit ?_)
 refine aw_ret (And.intro (Or.inr rfl) ?_)
 exact f_one
theorem drop_at {α:Type} {l:List α} {i:Nat} {x:α} (h:l[i]?=some x):l.drop i=x::l.drop (i+1):=by
 have hi:=(List.getElem?_eq_some_iff.1 h)
 rw [List.drop_eq_getElem_cons hi.1,hi.2]
abbrev oneR:Rat:=((1:Int):Rat)
theorem s_whole {j J:Nat} {l:List Rat} (hl:l.length≤100) (hne:0<l.length) (hj:j≤100000) (hr: ∀r∈l,RSz j r) (hJ:l.length*j+2+j+2≤J):
  CtrG Tryz.prog Amb 100 [.one (rats j l)] [] [(26,blkL (nmD J) (l.map fun r=>whS oneR l*r))] (.tup [.one (.gl 26 (l.map fun r=>whS oneR l*r).length 3),nm (l.length*j+2) (whS oneR l)]):=by
 have hjs:l.length*j≤10000000:=Nat.le_trans (Nat.mul_le_mul hl hj) (by decide)
 obtain ⟨js,hjse⟩: ∃js,js=l.length*j+2:=⟨_,rfl⟩
 rw [←hjse] at hJ⊢
 obtain ⟨S,hS⟩: ∃S,S=whS oneR l:=⟨_,rfl⟩
 rw [←hS]
 obtain ⟨h,hh⟩: ∃h:Rat→Rat,h=fun r=>S*r:=⟨_,rfl⟩
 rw [←hh]
 have hne':(!(blkL (nmD J) (l.map h)).isEmpty)=true:=by
  have:=blkL_ne (f:=nmD J) inferInstance (by decide) (show 0<(l.map h).length by simpa using hne)
  cases hb:blkL (nmD J) (l.map h) with
  | nil=>rw [hb] at this;cases this
  | cons a b=>rfl
 have I1:=c_int (n:=1) rfl
 refine ctrG_body Tryz.func100 rfl rfl rfl rfl (by
  simp only [List.all_cons,List.all_nil,Bool.and_true,Bool.and_eq_true]
  exact ⟨by simp [inA,inC],blkL_in _ _,hne'⟩) (by simp [inA,inC]) (by simp) (by simp) ?_
 intro W0 base D μ0 hA hD
 repeat (first | refine aw_seq ?_ | refine aw_block ?_ | refine aw_condT rfl ?_ | refine aw_condF rfl ?_ | refine aw_pa ?_ | refine aw_da ?_ | refine aw_skip ?_ | refine aw_exit ?_)
 refine aw_loop (fun b σ=> ∃(i m:Nat),b=l.length-i∧i≤l.length∧0<m∧Sz (i*j+2) m∧whS ((m:Int):Rat) (l.drop i)=S∧Wk ⟨W0,base,D,43,[],μ0⟩ σ [(0,.one (rats j l)),(3,.one (.ptr 3 0)),(4,.one (.ptr 4 0)),(11,.one (rats j l)),(12,errV (l.length:Nat)),(13,errV (i:Nat))] [(3,nmC 2 0),(4,nmC js ((m:Int):Rat))]) (n:=l.length) ⟨0,1,by omega,by omega,by decide,length_toL_le _ _ (by rw [Nat.zero_mul];decide),hS.symm,?_⟩ ?_
 ·exact wk_a
 intro b σ hI
 obtain ⟨i,m,hb,hi0,hm,hms,hw0,hw⟩:=hI
 refine aw_wk hw ?_
 clear hw
 by_cases hi:i<l.length
 ·obtain ⟨x,hx,hx'⟩:=get_at hi
  have bi:=binLt (k:= .i64) (decide_eq_true (show (i:Int)<(l.length:Int) by omega))
  have hin:=binAdd (k:= .i64) (show (IntKind.i64).wrap ((i:Int)+1)=((i+1:Nat):Int) from IntWalk.i64_in _ (by omega))
  rw [drop_at hx'] at hw0
  obtain ⟨m',hm',he,hs'⟩:=whS_step (r:=x) hm hms (hr x (List.mem_of_getElem? hx'))
  have hw1:whS ((m':Int):Rat) (l.drop (i+1))=S:=by rw [←he];exact hw0
  have e1:i*j+2+j=(i+1)*j+2:=by rw [Nat.succ_mul];omega
  rw [e1] at hs'
  have hs2:RSz js ((m':Int):Rat):=(rsz_nat hs' (by omega)).mono (by
   have:=Nat.mul_le_mul_right j (show i+1≤l.length by omega)
   omega)
  have M1:=c_mul (j:=js) (k:=j) (x:=((m:Int):Rat)) (y:=x) (by omega) (by omega)
  have D1:=c_den (j:=js+j+2) (x:=((m:Int):Rat)*x) (by omega)
  have M2:=c_mul (j:=js) (k:=js+j+2+2) (x:=((m:Int):Rat)) (y:=denQ (((m:Int):Rat)*x)) (by omega) (by omega)
  repeat (first | refine aw_seq ?_ | refine aw_block ?_ | refine aw_condT rfl ?_ | refine aw_condF rfl ?_ | refine aw_pa ?_ | refine aw_da ?_ | refine aw_skip ?_ | refine aw_exit ?_)
  refine ⟨b-1,by omega,i+1,m',by omega,by omega,hm',hs',hw1,?_⟩
  exact wk_a
 ·have bi:=binLt (k:= .i64) (decide_eq_false (show ¬(i:Int)<(l.length:Int) by omega))
  have hmS:((m:Int):Rat)=S:=by
   rw [List.drop_eq_nil_of_le (by omega)] at hw0
   exact hw0
  rw [hmS]
  clear hw0 hms hm I1 hS hmS
  repeat (first | refine aw_seq ?_ | refine aw_block ?_ | refine aw_condT rfl ?_ | refine aw_condF rfl ?_ | refine aw_pa ?_ | refine aw_da ?_ | refine aw_skip ?_ | refine aw_exit ?_)
  refine aw_loop (fun n σ=> ∃(i:Nat) (cur:List Rat),n=l.length-i∧i≤l.length∧cur=(l.take i).map h++List.replicate (l.length-i) 0∧Wk ⟨W0,base,D,43,[],μ0⟩ σ [(3,.one (.ptr 3 0)),(4,.one (.ptr 4 0)),(7,.one (.gl 26 l.length 3)),(27,.one (rats j l)),(28,errV (l.length:Nat)),(29,errV (i:Nat))] [(26,blkL (nmD J) cur),(3,nmC 2 0),(4,nmC js S)]) (n:=l.length) ⟨0,List.replicate l.length 0,by omega,by omega,by simp,?_⟩ ?_
  ·exact wk_a
  intro n σ hI
  obtain ⟨i,cur,hn,hi0,hcur,hw⟩:=hI
  refine aw_wk hw ?_
  clear hw
  have hcl:cur.length=l.length:=by rw [hcur];simp;omega
  by_cases hi:i<l.length
  ·obtain ⟨x,hx,hx'⟩:=get_at hi
   have bi:=binLt (k:= .i64) (decide_eq_true (show (i:Int)<(l.length:Int) by omega))
   have hin:=binAdd (k:= .i64) (show (IntKind.i64).wrap ((i:Int)+1)=((i+1:Nat):Int) from IntWalk.i64_in _ (by omega))
   have hlt:(0:Int)≤((i:Nat):Int)∧((i:Nat):Int)<(l.length:Nat):=by omega
   have hst:((i:Nat):Int).toNat*3+3≤(blkL (nmD J) cur).length:=by rw [blkL_len (n:=3) inferInstance,hcl,Int.toNat_natCast];omega
   have M3:=c_mul (j:=js) (k:=j) (x:=S) (y:=x) (by omega) (by omega)
   repeat (first | refine aw_seq ?_ | refine aw_block ?_ | refine aw_condT rfl ?_ | refine aw_condF rfl ?_ | refine aw_pa ?_ | refine aw_da ?_ | refine aw_skip ?_ | refine aw_exit ?_)
   refine ⟨n-1,by omega,i+1,cur.set i (S*x),by omega,by omega,?_,?_⟩
   ·rw [hcur,show S*x=h x by rw [hh]];exact set_map rfl hx'
   ·exact wk_a
  ·have bi:=binLt (k:= .i64) (decide_eq_false (show ¬(i:Int)<(l.length:Int) by omega))
   have he:cur=l.map h:=by rw [hcur,List.take_of_length_le (by omega),show l.length-i=0 by omega];simp
   subst he
   repeat (first | refine aw_seq ?_ | refine aw_block ?_ | refine aw_condT rfl ?_ | refine aw_condF rfl ?_ | refine aw_pa ?_ | refine aw_da ?_ | refine aw_skip ?_ | refine aw_exit ?_)
   refine aw_ret (And.intro (Or.inr rfl) (f_twoN ?_ (hE:=by exact Ent.tup rfl (EntT.cons (Ent.one' rfl (EntC.glLen (by simp))) rfl rfl (EntT.cons (Ent.of_eq rfl) rfl rfl EntT.nil)))))
   exact List.forall_mem_cons.2 ⟨.inl (blk_keep inferInstance),nil_all⟩
theorem s_wholeT {j J n:Nat} {l:List Rat} (hl:l.length=n+1) (hn:n≤60) (hj:j≤100000) (hr: ∀r∈l,RSz j r) (hJ:(n+1)*j+2+j+2≤J):
  CtrG Tryz.prog Amb 100 [.one (rats j l)] [] [(26,blkL (nmD J) (tab (n+1) fun i=>whS oneR l*l.getD i 0))] (.tup [.one (.gl 26 (n+1) 3),nm ((n+1)*j+2) (whS oneR l)]):=by
 have h:=s_whole (J:=J) (l:=l) (by omega) (by omega) hj hr (by rw [hl];exact hJ)
 have e:(l.map fun r=>whS oneR l*r)=tab (n+1) fun i=>whS oneR l*l.getD i 0:=by rw [map_tab (fun r=>whS oneR l*r) 0 l,hl]
 rw [e,tab_len,hl] at h
 exact h
end Go.Proofs.YtnkobfcnflphkaaGreatDoor
