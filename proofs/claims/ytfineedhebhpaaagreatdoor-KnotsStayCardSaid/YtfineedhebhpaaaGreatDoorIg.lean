/-
  Several texts in one: Zda, Zdb, Zdc.
-/
import Derived.Test.YtfineedhebhpaaaGreatDoorHy
import Derived.Test.YtfineedhebhpaaaGreatDoorId
namespace Go.Proofs.YtfineedhebhpaaaGreatDoor
open Nat renaming le_refl→Xv
open List renaming getElem?_eq_getElem→Xw
open Go.RowKit
set_option linter.unusedVariables false
set_option linter.unusedSimpArgs false
section
variable {P:Program} {X:Ctx} {ops l:List Oper} {σ:St} {K:List Eff→St→Prop} {s:Nat→AV} {z:Nat→Nat}
variable {dst:Option Tmp} {ty:TypeId} {pos:String} {af:Array Edge} {gd:Option (Nat×Bool)}
theorem QN {t e:TypeId} {lo co:Operand} {agg:Bool} {n bytes:Nat} {zv:Value} [S:Sle P t e agg n bytes zv] {kl kc:IntKind} {cap id:Nat} (hd: ∀t,dst=some t→t<X.n) (hl:evC s lo= .one (.v (.int kl (cap:Nat)))) (hc:evC s co= .one (.v (.int kc (cap:Nat))))
  (hb:bytes*cap≤281474976710656) (hb2:cap≤9223372036854775807) (hp:0<cap):
  Sim P X ⟨dst,.makeSlice t lo co,ty,pos,af,gd⟩ s z ⟨.one (.sx id 0 cap cap n),[],[],[(id,AS cap zv.cells.toList)]⟩:=by
 refine Sim.of0 fun W=>?_
 replace hd: ∀t,dst=some t→t<(X.at W).n:=hd
 generalize X.at W=X at hd⊢
 intro σ hs hsz _ hal a w hcn K Q hK
 obtain ⟨μ,hcn⟩:=hcn
 obtain ⟨hid,hne⟩:=hal.1 _ List.mem_cons_self
 obtain ⟨inf,hi,hz,hsize,hby⟩:=S.info
 have hn:=S.pos
 have h1:=hcn.ev lo
 replace h1:=Cd (o:=⟨dst,.makeSlice t lo co,ty,pos,af,gd⟩) hs (by simp [Op.operands]) h1
 rw [hl] at h1
 replace h1:a.eval lo= .int kl (cap:Int):=h1
 have h2:=hcn.ev co
 replace h2:=Cd (o:=⟨dst,.makeSlice t lo co,ty,pos,af,gd⟩) hs (by simp [Op.operands]) h2
 rw [hc] at h2
 replace h2:a.eval co= .int kc (cap:Int):=h2
 have hzs:=S.size
 have hr:=run_make (P:=P) w t e inf zv S.hu hi hz kl kc (cap:Int) (cap:Int) (by omega) (by omega) (by rw [hby];rw [←Int.natCast_mul];omega) (by omega)
 simp only [Int.toNat_natCast,hsize] at hr
 have hrun:(execOp a.eval ⟨dst,.makeSlice t lo co,ty,pos,af,gd⟩).run P w= .ok (.value (.slice (some ⟨w.heap.size,0,none⟩) cap cap)) (w.alloc (.cells (madeCells zv.cells (cap*n)) e)):=by
  simp [execOp,h1,h2,hr]
 unfold Oper.wp
 rw [hrun]
 have hkp:Kp w (w.alloc (.cells (madeCells zv.cells (cap*n)) e)):=(Below.refl _ _).alloc (Xv _) _
 have hall:=DO (W0:=X.W0) (μ:=μ) (sz:=σ.sz) (w:=w.alloc (.cells (madeCells zv.cells (cap*n)) e)) (z:=zv.cells) (by omega) cap
 rw [hzs] at hall
 have hzl:(AS cap zv.cells.toList).length=cap*n:=by rw [CE];simp [hzs]
 have hnew:=hcn.new (id:=id) hid (w':=w.alloc (.cells (madeCells zv.cells (cap*n)) e)) (g:=w.heap.size) (vs:=madeCells zv.cells (cap*n)) (e:=e) (cs:=AS cap zv.cells.toList) hkp (Xv _) (heap_alloc_new w _) hne
  (by rw [hzl,size_madeCells];exact Xv _) (fun o x hx=>GO S.nl (by omega) hx) (fun o x c hx hcc=>hall.2 o x c (by simpa using hx) hcc) (FS S.nl cap)
 refine hK _ _ ⟨upd μ id (w.heap.size,(madeCells zv.cells (cap*n)).size),?_⟩
 refine BW hnew (d:=dst) hd (v:= .slice (some ⟨w.heap.size,0,none⟩) cap cap) (av:= .one (.sx id 0 cap cap n)) ⟨by rw [AD,Nat.zero_mul],Xv _,by rw [AD,size_madeCells,Nat.zero_add];exact Xv _,?_⟩
 show upd σ.sz id _ id≠0
 rw [AD]
 intro h0
 exact hne (List.eq_nil_of_length_eq_zero h0)
theorem Uo {d:Nat} {t e:TypeId} {lo co:Operand} {agg:Bool} {n bytes:Nat} {zv:Value} [S:Sle P t e agg n bytes zv] {kl kc:IntKind} {cap:Nat} (hp:0<cap) (hb:bytes*cap≤281474976710656) (hb2:cap≤9223372036854775807) (hg:gOk ops σ.s gd:=by first|exact trivial|exact rfl) (hd:dB X.n (some d)=true:=by exact rfl) (hx:evC σ.s lo= .one (.v (.int kl (cap:Nat))):=by exact rfl) (hy:evC σ.s co= .one (.v (.int kc (cap:Nat))):=by exact rfl) (hf:Nat.beq (σ.sz d) 0=true:=by exact rfl)
  (hl:Ab P X ops l (σ.app (some d) ⟨.one (.sx d 0 cap cap n),[],[],[(d,AS cap zv.cells.toList)]⟩) (fun es σ'=>K (⟨.one (.sx d 0 cap cap n),[],[],[(d,AS cap zv.cells.toList)]⟩::es) σ')):Ab P X ops (⟨some d,.makeSlice t lo co,ty,pos,af,gd⟩::l) σ K:=
 .of (fun _ _ hl=>Run.step hg (QN (CH hd) hx hy hb hb2 hp) (fun p hp=>by cases hp) (DZ (by simpa using hf) fun h0=>by
  have h1:(AS cap zv.cells.toList).length=0:=by rw [h0];rfl
  rw [CE] at h1
  have:=Nat.mul_pos hp S.pos
  have h2:=S.size
  simp [h2] at h1
  omega) hl) hl
theorem Aa.sxGl {k len cap es:Nat} (h:0<len):Aa (.sx k 0 len cap es) (.gl k len es):=fun W0 μ sz w x hx=>by
 obtain ⟨h1,h2,h3,h4⟩:=hx
 rw [Nat.zero_mul] at h1
 rw [Nat.zero_add] at h3
 exact ⟨_,cap,h1,h2,fun h0=>by omega,fun _=>⟨rfl,h3,h4⟩⟩
theorem OB {t e:TypeId} {x:Operand} {lo hi:Option Operand} {agg:Bool} {n bytes:Nat} {zv:Value} [S:Sle P t e agg n bytes zv] {k off len cap a h:Nat} (hx:evC s x= .one (.sx k off len cap n)) (hh:Bnd s len hi h) (hl:Bnd s 0 lo a) (h1:a≤h) (h2:h≤cap) (h3:a<cap):
  CP P ⟨dst,.slice t x lo hi none,ty,pos,af,gd⟩ s (.one (.sx k (off+a) (h-a) (cap-a) n)):=fun W0 μ sz w ρ hρ=>by
 have e1:=hρ x (by simp [Op.operands])
 rw [hx] at e1
 obtain ⟨hp,hlc,hmu,hk⟩:=e1
 have rh: ∀v,hi=some v→(Instr.sliceBound (ρ v) cap .sliceAcap).run P w= .ok h w:=fun v hv=>by
  subst hv
  exact GU hh (hρ v (by simp [Op.operands])) (by omega)
 have rl: ∀v,lo=some v→(Instr.sliceBound (ρ v) h .sliceB).run P w= .ok a w:=fun v hv=>by
  subst hv
  exact GU hl (hρ v (by simp [Op.operands])) h1
 have rb:(Instr.sliceBounds true len cap (lo.map ρ) (hi.map ρ) none).run P w= .ok (a,h,cap) w:=by
  unfold Instr.sliceBounds
  cases hi with
  | none=>
    cases hh
    cases lo with
    | none=>cases hl;rfl
    | some v=>
      have:=rl v rfl
      simp [this]
  | some u=>
    cases lo with
    | none=>cases hl;simp [rh u rfl]
    | some v=>simp [rh u rfl,rl v rfl]
 have hc0: ¬cap=a:=by omega
 refine ⟨.slice (some ⟨(μ k).1,(off+a)*n,none⟩) (h-a) (cap-a),?_,rfl,by omega,?_,hk⟩
 ·simp [execOp,Instr.sliceAt,Instr.slice,run_underlying S.hu w,hp,rb,S.tsz.size w,hc0,Addr.add_mid,Nat.add_mul]
 ·rw [show off+a+(cap-a)=off+cap by omega];exact hmu
theorem GE {t e:TypeId} {x:Operand} {lo hi:Option Operand} {agg:Bool} {n bytes:Nat} {zv:Value} [S:Sle P t e agg n bytes zv] {k off len cap a h:Nat} (h1:a≤h) (h2:h≤cap) (h3:a<cap) (hlo:Bnd σ.s 0 lo a) (hhi:Bnd σ.s len hi h) (hg:gOk ops σ.s gd:=by first|exact trivial|exact rfl) (hd:dB X.n dst=true:=by exact rfl) (hx:evC σ.s x= .one (.sx k off len cap n):=by exact rfl)
  (hl:Ab P X ops l (σ.app dst ⟨.one (.sx k (off+a) (h-a) (cap-a) n),[],[],[]⟩) (fun es σ'=>K (⟨.one (.sx k (off+a) (h-a) (cap-a) n),[],[],[]⟩::es) σ')):Ab P X ops (⟨dst,.slice t x lo hi none,ty,pos,af,gd⟩::l) σ K:=
 BF (o:=⟨dst,.slice t x lo hi none,ty,pos,af,gd⟩) hg hd (OB (S:=S) hx hhi hlo h1 h2 h3) hl
theorem Rh {t e:TypeId} {x y:Operand} {agg:Bool} {n bytes:Nat} {zv:Value} [S:Sle P t e agg n bytes zv] {k off len cap:Nat} {ik:IntKind} {i:Int} (hx:evC s x= .one (.sx k off len cap n)) (hy:evC s y= .one (.v (.int ik i))) (hi:0≤i∧i<len):
  CP P ⟨dst,.indexAddr t x y,ty,pos,af,gd⟩ s (.one (.ptr k (off*n+i.toNat*n))):=fun W0 μ sz w ρ hρ=>by
 have h1:=hρ x (by simp [Op.operands])
 rw [hx] at h1
 obtain ⟨hp,_,_,hk⟩:=h1
 have h2:=hρ y (by simp [Op.operands])
 rw [hy] at h2
 replace h2:ρ y= .int ik i:=h2
 refine ⟨.pointer (some ⟨(μ k).1,off*n+i.toNat*n,none⟩),?_,rfl,hk⟩
 simp [execOp,Instr.indexAt,run_underlying S.hu w,hp,h2,asIntOf,hi.1,hi.2,S.tsz.size w,Addr.add_mid]
theorem VY {t e:TypeId} {x y:Operand} {agg:Bool} {n bytes:Nat} {zv:Value} [S:Sle P t e agg n bytes zv] {k off len cap:Nat} {ik:IntKind} {i:Int} (hi:0≤i∧i<len) (hg:gOk ops σ.s gd:=by first|exact trivial|exact rfl) (hd:dB X.n dst=true:=by exact rfl) (hx:evC σ.s x= .one (.sx k off len cap n):=by exact rfl) (hy:evC σ.s y= .one (.v (.int ik i)):=by exact rfl)
  (hl:Ab P X ops l (σ.app dst ⟨.one (.ptr k (off*n+i.toNat*n)),[],[],[]⟩) (fun es σ'=>K (⟨.one (.ptr k (off*n+i.toNat*n)),[],[],[]⟩::es) σ')):Ab P X ops (⟨dst,.indexAddr t x y,ty,pos,af,gd⟩::l) σ K:=
 BF (o:=⟨dst,.indexAddr t x y,ty,pos,af,gd⟩) hg hd (Rh (S:=S) hx hy hi) hl
theorem K9 (w:World) (t tx ty e:TypeId) (i:TypeInfo) (ht:P.underlying t=some (.slice e)) (hi:P.info? e=some i) (b off dLen dCap:Nat) (a:Addr) (sLen sCap n:Nat) (hn:n=min sLen dLen) (news:List Value) (hnl:news.length=n*i.size) (hr: ∀j u,news[j]?=some u→w.cell? (a.add j)=some u) (hone: ∀u∈news,u.oneCell'=true)
  (hc: ∀j,j<news.length→(w.cell? ⟨b,off+j,none⟩).isSome=true) (hf: ∀j,j<news.length→w.frozen? ⟨b,off+j,none⟩=false):
  (Builtin.copy_ #[t,tx] ty #[.slice (some ⟨b,off,none⟩) dLen dCap,.slice (some a) sLen sCap]).run P w= .ok (goInt n) (w.setCells b off news):=by
 have hst:=run_storeCells_cells (P:=P) b off news 0 w (by simpa using hc) (by simpa using hf) hone
 simp only [Nat.add_zero] at hst
 have hm:Nat.min sLen dLen=n:=hn.symm
 have hfc:=run_firstCells_some (P:=P) (w:=w) i.size n a sLen sCap news hnl hr
 simp [Builtin.copy_,run_underlying ht,sizeOf,typeInfo,hi,Builtin.lenOf,hm,hfc,hst]
theorem N0 {t tx e:TypeId} {x y:Operand} {agg:Bool} {n bytes:Nat} {zv:Value} [S:Sle P t e agg n bytes zv] {k off len cap k2 off2 m cap2 q:Nat} {os:List C} (hd: ∀t,dst=some t→t<X.n)
  (hx:evC s x= .one (.sx k off len cap n)) (hy:evC s y= .one (.sx k2 off2 m cap2 n)) (hq:q=min m len) (hp:0<q) (hol:os.length=q*n) (hz:off*n+q*n≤z k) (hz2:off2*n+q*n≤z k2):
  Sim P X ⟨dst,.call ⟨.builtin .copy,#[x,y],#[t,tx]⟩,ty,pos,af,gd⟩ s z ⟨.one (.v (.int .i64 q)),[(k2,off2*n,os)],[(k,off*n,os)],[]⟩:=by
 refine Sim.of0 fun W=>?_
 replace hd: ∀t,dst=some t→t<(X.at W).n:=hd
 generalize X.at W=X at hd⊢
 intro σ hs hsz hrd _ a w hc K Q hK
 obtain ⟨μ,hc⟩:=hc
 have hn:=S.pos
 have hpn:=Nat.mul_pos hp hn
 obtain ⟨inf,hi,hzr,hsize,hbye⟩:=S.info
 have h1:=hc.ev x
 replace h1:=Cd (o:=⟨dst,.call ⟨.builtin .copy,#[x,y],#[t,tx]⟩,ty,pos,af,gd⟩) hs (by simp [Op.operands,Call.operands]) h1
 rw [hx] at h1
 obtain ⟨e1,hlc,hmu,hk⟩:=h1
 have h2:=hc.ev y
 replace h2:=Cd (o:=⟨dst,.call ⟨.builtin .copy,#[x,y],#[t,tx]⟩,ty,pos,af,gd⟩) hs (by simp [Op.operands,Call.operands]) h2
 rw [hy] at h2
 obtain ⟨e2,hlc2,hmu2,hk2⟩:=h2
 have hzk:σ.sz k=z k:=by rcases hsz k (by omega) with h|h;exact absurd h hk;exact h
 have hzk2:σ.sz k2=z k2:=by rcases hsz k2 (by omega) with h|h;exact absurd h hk2;exact h
 obtain ⟨vs,hvl,hr,_,hv⟩:=hc.slice (k:=k2) (off:=off2*n) (n:=q*n) hk2 (by omega)
 have hm: ∀(i:Nat) c,os[i]?=some c→σ.m k2 (off2*n+i)=c:=fun i c hi=>hrd (k2,off2*n,os) (by simp) i c hi
 have hall:BS (cc X.W0 μ σ.sz w) vs os:=⟨by omega,fun i v c hvi hci=>by rw [←hm i c hci];exact (hv i v hvi).1⟩
 have hnl: ∀c∈os,nl c:=fun c hcm=>by
  obtain ⟨i,hi1,hi2⟩:=List.getElem_of_mem hcm
  have hi3:i<vs.length:=by omega
  have h3:=(hv i _ (Xw hi3)).2
  rwa [hm i c (by rw [Xw hi1,hi2])] at h3
 have hone: ∀u∈vs,u.oneCell'=true:=fun u hu=>by
  obtain ⟨i,hi1,hi2⟩:=List.getElem_of_mem hu
  have h3:=hv i _ (Xw hi1)
  rw [hi2] at h3
  exact (h3.1.noL h3.2).2
 obtain ⟨_,_,_,hth,_⟩:=hc.slice (k:=k) (off:=off*n) (n:=q*n) hk (by omega)
 have hrun:=K9 (P:=P) w t tx ty e inf S.hu hi (μ k).1 (off*n) len cap ⟨(μ k2).1,off2*n,none⟩ m cap2 q hq vs (by rw [hsize];exact hvl) (fun j u hj=>by rw [Addr.add_mid];exact hr j u hj) hone (fun j hj=>(hth j (by omega)).1) (fun j hj=>(hth j (by omega)).2)
 have hrun2:(execOp a.eval ⟨dst,.call ⟨.builtin .copy,#[x,y],#[t,tx]⟩,ty,pos,af,gd⟩).run P w= .ok (.value (goInt q)) (w.setCells (μ k).1 (off*n) vs):=by
  simp [execOp,resolve,invoke,builtin,e1,e2,hrun]
 unfold Oper.wp
 rw [hrun2]
 refine hK _ _ ⟨μ,?_⟩
 exact BW (hc.store (off:=off*n) hk hall hnl) (d:=dst) hd (v:=goInt q) (av:= .one (.v (.int .i64 q))) rfl
theorem RT {t tx e:TypeId} {x y:Operand} {agg:Bool} {n bytes:Nat} {zv:Value} [S:Sle P t e agg n bytes zv] {k off len cap k2 off2 m cap2 q:Nat} {os:List C} (hq:q=min m len) (hp:0<q) (hol:os.length=q*n) (hz:off*n+q*n≤σ.sz k) (hz2:off2*n+q*n≤σ.sz k2) (hm: ∀(i:Nat) c,os[i]?=some c→σ.m k2 (off2*n+i)=c)
  (hg:gOk ops σ.s gd:=by first|exact trivial|exact rfl) (hd:dB X.n dst=true:=by exact rfl) (hx:evC σ.s x= .one (.sx k off len cap n):=by exact rfl) (hy:evC σ.s y= .one (.sx k2 off2 m cap2 n):=by exact rfl)
  (hl:Ab P X ops l (σ.app dst ⟨.one (.v (.int .i64 q)),[(k2,off2*n,os)],[(k,off*n,os)],[]⟩) (fun es σ'=>K (⟨.one (.v (.int .i64 q)),[(k2,off2*n,os)],[(k,off*n,os)],[]⟩::es) σ')):Ab P X ops (⟨dst,.call ⟨.builtin .copy,#[x,y],#[t,tx]⟩,ty,pos,af,gd⟩::l) σ K:=
 .of (fun _ _ hl=>Run.step hg (N0 (S:=S) (CH hd) hx hy hq hp hol hz hz2) (fun p hp=>by rw [List.mem_singleton.1 hp];exact hm) B7 hl) hl
theorem N4 {t tx e:TypeId} {x y:Operand} {agg:Bool} {n bytes:Nat} {zv:Value} [S:Sle P t e agg n bytes zv] {k off len cap m:Nat} {ds:List D} (hd: ∀t,dst=some t→t<X.n) (hux: ∃e,P.underlying tx=some (.slice e))
  (hx:evC s x= .one (.sx k off len cap n)) (hy:evC s y= .one (.ls n m ds)) (hml:m≤len) (hp:0<m) (hz:off*n+m*n≤z k):
  Sim P X ⟨dst,.call ⟨.builtin .copy,#[x,y],#[t,tx]⟩,ty,pos,af,gd⟩ s z ⟨.one (.v (.int .i64 m)),[],[(k,off*n,ds.map toC)],[]⟩:=by
 refine Sim.of0 fun W=>?_
 replace hd: ∀t,dst=some t→t<(X.at W).n:=hd
 generalize X.at W=X at hd⊢
 intro σ hs hsz _ _ a w hc K Q hK
 obtain ⟨μ,hc⟩:=hc
 have hn:=S.pos
 have hpn:=Nat.mul_pos hp hn
 obtain ⟨inf,hi,hzr,hsize,hbye⟩:=S.info
 obtain ⟨ex,hux⟩:=hux
 have h1:=hc.ev x
 replace h1:=Cd (o:=⟨dst,.call ⟨.builtin .copy,#[x,y],#[t,tx]⟩,ty,pos,af,gd⟩) hs (by simp [Op.operands,Call.operands]) h1
 rw [hx] at h1
 obtain ⟨e1,hlc,hmu,hk⟩:=h1
 have h2:=hc.ev y
 replace h2:=Cd (o:=⟨dst,.call ⟨.builtin .copy,#[x,y],#[t,tx]⟩,ty,pos,af,gd⟩) hs (by simp [Op.operands,Call.operands]) h2
 rw [hy] at h2
 replace h2:cc X.W0 μ σ.sz w (a.eval y) (.ls n m ds):=h2
 obtain ⟨vn,s2,a2,n2,hln⟩:=Iq (P:=P) hc hux hn h2 (Srcs.ls (σ:=σ))
 have hnl: ∀c∈ds.map toC,nl c:=fun c hcm=>by
  obtain ⟨i,hi1,hi2⟩:=List.getElem_of_mem hcm
  have hi3:i<vn.length:=by rw [a2.1];exact hi1
  have h3:=a2.2 i _ _ (Xw hi3) (Xw hi1)
  rw [hi2] at h3
  obtain ⟨d,_,rfl⟩:=List.mem_map.1 hcm
  exact VK (Gx.1 h3) (n2 _ (List.getElem_mem hi3))
 have hzk:σ.sz k=z k:=by rcases hsz k (by omega) with h|h;exact absurd h hk;exact h
 have hvn:vn.length=m*n:=a2.1.trans hln
 obtain ⟨_,_,_,hth,_⟩:=hc.slice (k:=k) (off:=off*n) (n:=m*n) hk (by omega)
 have hrun:=KZ (P:=P) w t tx ty e inf S.hu hi (μ k).1 (off*n) len cap (a.eval y) m vn (by rw [hsize];exact s2) hml (fun j hj=>(hth j (by omega)).1) (fun j hj=>(hth j (by omega)).2)
 have hrun2:(execOp a.eval ⟨dst,.call ⟨.builtin .copy,#[x,y],#[t,tx]⟩,ty,pos,af,gd⟩).run P w= .ok (.value (goInt m)) (w.setCells (μ k).1 (off*n) vn):=by
  simp [execOp,resolve,invoke,builtin,e1,hrun]
 unfold Oper.wp
 rw [hrun2]
 refine hK _ _ ⟨μ,?_⟩
 exact BW (hc.store (off:=off*n) hk a2 hnl) (d:=dst) hd (v:=goInt m) (av:= .one (.v (.int .i64 m))) rfl
theorem RU {α:Type} {f:α→List D} {la:List α} {t tx e:TypeId} {x y:Operand} {agg:Bool} {n bytes:Nat} {zv:Value} [S:Sle P t e agg n bytes zv] {k off len cap:Nat} (hux: ∃e,P.underlying tx=some (.slice e)) (hml:la.length≤len) (hp:0<la.length) (hz:off*n+la.length*n≤σ.sz k)
  (hg:gOk ops σ.s gd:=by first|exact trivial|exact rfl) (hd:dB X.n dst=true:=by exact rfl) (hx:evC σ.s x= .one (.sx k off len cap n):=by exact rfl) (hy:evC σ.s y= .one (lsG n f la):=by exact rfl)
  (hl:Ab P X ops l (σ.app dst ⟨.one (.v (.int .i64 la.length)),[],[(k,off*n,Al f la)],[]⟩) (fun es σ'=>K (⟨.one (.v (.int .i64 la.length)),[],[(k,off*n,Al f la)],[]⟩::es) σ')):Ab P X ops (⟨dst,.call ⟨.builtin .copy,#[x,y],#[t,tx]⟩,ty,pos,af,gd⟩::l) σ K:=
 .of (fun _ _ hl=>Run.step hg (N4 (S:=S) (CH hd) hux hx hy hml hp hz) (fun p hp=>by cases hp) B7 hl) hl
theorem Sf {t tx e:TypeId} {x y:Operand} {agg:Bool} {n bytes:Nat} {zv:Value} [S:Sle P t e agg n bytes zv] {k off len cap m id:Nat} {os:List C} {ds:List D} (hd: ∀t,dst=some t→t<X.n) (hux: ∃e,P.underlying tx=some (.slice e))
  (hx:evC s x= .one (.sx k off len cap n)) (hy:evC s y= .one (.ls n m ds)) (hol:os.length=len*n) (hz:off*n+len*n≤z k) (hg:cap<len+m) (hby:(len+m)*bytes≤140737488355328) (h63:len+m≤9223372036854775807) (hb:0<off*n+len*n):
  Sim P X ⟨dst,.call ⟨.builtin .append,#[x,y],#[t,tx]⟩,ty,pos,af,gd⟩ s z ⟨.one (.gl id (len+m) n),[(k,off*n,os)],[],[(id,os++ds.map toC)]⟩:=by
 refine Sim.of0 fun W=>?_
 replace hd: ∀t,dst=some t→t<(X.at W).n:=hd
 generalize X.at W=X at hd⊢
 intro σ hs hsz hrd hal a w hcn K Q hK
 obtain ⟨μ,hcn⟩:=hcn
 obtain ⟨hid,hne⟩:=hal.1 _ List.mem_cons_self
 have hn:=S.pos
 obtain ⟨inf,hi,hzr,hsize,hbye⟩:=S.info
 obtain ⟨ex,hux⟩:=hux
 have h1:=hcn.ev x
 replace h1:=Cd (o:=⟨dst,.call ⟨.builtin .append,#[x,y],#[t,tx]⟩,ty,pos,af,gd⟩) hs (by simp [Op.operands,Call.operands]) h1
 rw [hx] at h1
 obtain ⟨e1,hlc,hmu,hk⟩:=h1
 have h2:=hcn.ev y
 replace h2:=Cd (o:=⟨dst,.call ⟨.builtin .append,#[x,y],#[t,tx]⟩,ty,pos,af,gd⟩) hs (by simp [Op.operands,Call.operands]) h2
 rw [hy] at h2
 replace h2:cc X.W0 μ σ.sz w (a.eval y) (.ls n m ds):=h2
 obtain ⟨vn,s2,a2,n2,hln⟩:=Iq (P:=P) hcn hux hn h2 (Srcs.ls (σ:=σ))
 have hzk:σ.sz k=z k:=by rcases hsz k (by omega) with h|h;exact absurd h hk;exact h
 obtain ⟨vo,hvl,hr,_,hv⟩:=hcn.slice (k:=k) (off:=off*n) (n:=len*n) hk (by omega)
 have hm: ∀(i:Nat) c,os[i]?=some c→σ.m k (off*n+i)=c:=fun i c hi=>hrd (k,off*n,os) (by simp) i c hi
 have a1:BS (cc X.W0 μ σ.sz w) vo os:=⟨by omega,fun i v c hvi hci=>by rw [←hm i c hci];exact (hv i v hvi).1⟩
 have n1: ∀u∈vo,noL u:=fun u hu=>by
  obtain ⟨i,hi1,hi2⟩:=List.getElem_of_mem hu
  have h3:=hv i _ (Xw hi1)
  rw [hi2] at h3
  exact h3.1.noL h3.2
 have hnlo: ∀c∈os,nl c:=fun c hcm=>by
  obtain ⟨i,hi1,hi2⟩:=List.getElem_of_mem hcm
  have hi3:i<vo.length:=by omega
  have h3:=(hv i _ (Xw hi3)).2
  rwa [hm i c (by rw [Xw hi1,hi2])] at h3
 have hnln: ∀c∈ds.map toC,nl c:=fun c hcm=>by
  obtain ⟨i,hi1,hi2⟩:=List.getElem_of_mem hcm
  have hi3:i<vn.length:=by rw [a2.1];exact hi1
  have h3:=a2.2 i _ _ (Xw hi3) (Xw hi1)
  rw [hi2] at h3
  obtain ⟨d,_,rfl⟩:=List.mem_map.1 hcm
  exact VK (Gx.1 h3) (n2 _ (List.getElem_mem hi3))
 have hold:(Builtin.firstCells inf.size len (.slice (some ⟨(μ k).1,off*n,none⟩) len cap)).run P w.drew= .ok vo.toArray w.drew:=by
  refine run_firstCells_some (P:=P) (w:=w.drew) inf.size len _ len cap vo (by rw [hsize];exact hvl) fun j u hj=>?_
  rw [Addr.add_mid]
  exact hr j u hj
 have hru:=run_append_grow_src (P:=P) w t tx ty e inf zv S.hu hi hzr (some ⟨(μ k).1,off*n,none⟩) len cap vo hold (a.eval y) m vn (by rw [hsize];exact s2) hg (by omega) (growslice_fits hg (by rw [hbye];exact hby))
 have hrun:(execOp a.eval ⟨dst,.call ⟨.builtin .append,#[x,y],#[t,tx]⟩,ty,pos,af,gd⟩).run P w= .ok (.value (.slice (some ⟨w.heap.size,0,none⟩) (len+m) (grownCap w (len+m) cap e))) (w.drew.alloc (.cells ((vo++vn).toArray++Builtin.zeroCells zv.cells (grownCap w (len+m) cap e-(len+m))) e)):=by
  simp [execOp,resolve,invoke,builtin,e1,hru]
 unfold Oper.wp
 rw [hrun]
 have hge:=grownCap_ge w (len+m) cap e
 generalize grownCap w (len+m) cap e=gc at hge
 have hkp:Kp w (w.drew.alloc (.cells ((vo++vn).toArray++Builtin.zeroCells zv.cells (gc-(len+m))) e)):=((Below.refl _ _).drew).alloc (Xv _) _
 have hall:BS (cc X.W0 μ σ.sz (w.drew.alloc (.cells ((vo++vn).toArray++Builtin.zeroCells zv.cells (gc-(len+m))) e))) (vo++vn) (os++ds.map toC):=by
  refine (Ds a1 a2).map fun v c hc hv=>hv.mono (Kl.of_kp hkp) fun i hi=>⟨rfl,hi⟩
 obtain ⟨r1,r2,r3⟩:=He (k:=gc-(len+m)) hall (fun u hu=>by
  rcases List.mem_append.1 hu with h|h
  ·exact n1 u h
  ·exact n2 u h) S.nl S.size hn
 have hvl2:(vo++vn).length=(len+m)*n:=by rw [(Ds a1 a2).1,List.length_append,hol,hln,Nat.add_mul]
 have hol2:(os++ds.map toC).length=(len+m)*n:=by rw [List.length_append,hol,hln,Nat.add_mul]
 have hnew:=hcn.new (id:=id) hid (g:=w.heap.size) (e:=e) (cs:=os++ds.map toC) hkp (Xv _) (heap_alloc_new w.drew _) hne (by rw [r1,hvl2,hol2];omega) r2 r3 (fun c hc=>by
  rcases List.mem_append.1 hc with h|h
  ·exact hnlo c h
  ·exact hnln c h)
 have hlast:cv X.W0 (upd μ id (w.heap.size,((vo++vn).toArray++Builtin.zeroCells zv.cells (gc-(len+m))).size)) (upd σ.sz id (os++ds.map toC).length) (w.drew.alloc (.cells ((vo++vn).toArray++Builtin.zeroCells zv.cells (gc-(len+m))) e)) (.slice (some ⟨w.heap.size,0,none⟩) (len+m) gc) (.one (.gl id (len+m) n)):=by
  refine ⟨_,gc,rfl,hge,fun h=>by omega,fun _=>⟨by rw [AD],?_,?_⟩⟩
  ·rw [AD,r1,hvl2,←Nat.add_mul]
   have:len+m+(gc-(len+m))=gc:=by omega
   rw [this];exact Xv _
  ·rw [AD]
   intro h0
   exact hne (List.eq_nil_of_length_eq_zero h0)
 exact hK _ _ ⟨_,BW hnew (d:=dst) hd hlast⟩
theorem V4 {α:Type} {f:α→List D} {la:List α} {d:Nat} {t tx e:TypeId} {x y:Operand} {agg:Bool} {n bytes:Nat} {zv:Value} [S:Sle P t e agg n bytes zv] {k off len cap:Nat} {os:List C} (hux: ∃e,P.underlying tx=some (.slice e)) (hol:os.length=len*n) (hc:cap<len+la.length∧(len+la.length)*bytes≤140737488355328∧len+la.length≤9223372036854775807∧0<off*n+len*n) (hz:off*n+len*n≤σ.sz k) (hm: ∀(i:Nat) c,os[i]?=some c→σ.m k (off*n+i)=c) (hne:os≠ [])
  (hg:gOk ops σ.s gd:=by first|exact trivial|exact rfl) (hd:dB X.n (some d)=true:=by exact rfl) (hx:evC σ.s x= .one (.sx k off len cap n):=by exact rfl) (hy:evC σ.s y= .one (lsG n f la):=by exact rfl) (hf:Nat.beq (σ.sz d) 0=true:=by exact rfl)
  (hl:Ab P X ops l (σ.app (some d) ⟨.one (.gl d (len+la.length) n),[(k,off*n,os)],[],[(d,os++Al f la)]⟩) (fun es σ'=>K (⟨.one (.gl d (len+la.length) n),[(k,off*n,os)],[],[(d,os++Al f la)]⟩::es) σ')):Ab P X ops (⟨some d,.call ⟨.builtin .append,#[x,y],#[t,tx]⟩,ty,pos,af,gd⟩::l) σ K:=
 .of (fun _ _ hl=>Run.step hg (Sf (S:=S) (CH hd) hux hx hy hol hz hc.1 hc.2.1 hc.2.2.1 hc.2.2.2) (fun p hp=>by rw [List.mem_singleton.1 hp];exact hm) (DZ (Nat.eq_of_beq_eq_true hf) fun h0=>hne (List.append_eq_nil_iff.1 h0).1) hl) hl
end
set_option maxRecDepth 20000
set_option maxHeartbeats 1000000
instance fun_mul64:Fun Tryz.prog 264:=⟨by kernel_rfl⟩
theorem ND {α:Type} {f:α→List D} {n:Nat} (hf:Elm n f) {σ:St} {ks:List Nat} {k:Nat} {l la:List α} {i:Nat} (hi:i+la.length≤l.length) (hz:σ.sz k=(Al f l).length:=by exact rfl) (hm:σ.m k=laid (FF (Al f l)) (i*n) (Al f la):=by exact rfl):D0 σ ks (k,Al f (l.take i++la++l.drop (i+la.length))):=by
 have hll:(l.take i++la++l.drop (i+la.length)).length=l.length:=by
  rw [List.length_append,List.length_append,List.length_take,List.length_drop];omega
 refine ⟨⟨by show σ.sz k=_;rw [hz,A5 hf,A5 hf,hll],fun o c hc=>⟨?_,Dg hf _ c (List.mem_of_getElem? hc)⟩⟩,BM ks _⟩
 show Aa (σ.m k o) c
 rw [hm]
 have e1:Al f (l.take i++la++l.drop (i+la.length))=Al f (l.take i)++Al f la++Al f (l.drop (i+la.length)):=by simp [Al]
 have ap: ∀u v:List α,Al f u++Al f v=Al f (u++v):=fun u v=>by simp [Al]
 have e2:Al f l=Al f (l.take i)++Al f (l.drop i):=by rw [ap,List.take_append_drop]
 have e3:Al f (l.drop i)=Al f ((l.drop i).take la.length)++Al f (l.drop (i+la.length)):=by
  have:=List.take_append_drop la.length (l.drop i)
  rw [List.drop_drop] at this
  rw [ap,this]
 have l1:(Al f (l.take i)).length=i*n:=by rw [A5 hf,List.length_take,Nat.min_eq_left (by omega)]
 have l2:(Al f la).length=la.length*n:=A5 hf la
 have l3:(Al f ((l.drop i).take la.length)).length=la.length*n:=by rw [A5 hf,List.length_take,List.length_drop,Nat.min_eq_left (by omega)]
 have hc:(Al f (l.take i++la++l.drop (i+la.length)))[o]?=some c:=hc
 rw [e1,List.append_assoc] at hc
 by_cases h1:o<i*n
 ·rw [List.getElem?_append_left (by omega)] at hc
  rw [DU (by omega)]
  refine Aa.of_eq (C5 ?_)
  rw [e2,List.getElem?_append_left (by omega)]
  exact hc
 ·rw [List.getElem?_append_right (by omega),l1] at hc
  by_cases h2:o-i*n<la.length*n
  ·rw [List.getElem?_append_left (by omega)] at hc
   obtain ⟨q,rfl⟩: ∃q,o=i*n+q:=⟨o-i*n,by omega⟩
   rw [Nat.add_sub_cancel_left] at hc
   rw [Dw hc]
   exact Aa.of_eq rfl
  ·rw [List.getElem?_append_right (by omega),l2] at hc
   rw [DU (by omega)]
   refine Aa.of_eq (C5 ?_)
   rw [e2,List.getElem?_append_right (by omega),l1,e3,List.getElem?_append_right (by omega),l3]
   exact hc
section
variable {P:Program} {X:Ctx} {ops l:List Oper} {σ:St} {K:List Eff→St→Prop} {s:Nat→AV} {z:Nat→Nat}
variable {dst:Option Tmp} {ty:TypeId} {pos:String} {af:Array Edge} {gd:Option (Nat×Bool)}
end
section
variable {P:Program} {X:Ctx} {ops l:List Oper} {σ:St} {K:List Eff→St→Prop}
variable {dst:Option Tmp} {ty:TypeId} {pos:String} {af:Array Edge} {gd:Option (Nat×Bool)}
end
theorem GV {σ:St} {ks:List Nat} {k:Nat} {os cs:List C} (he:EntL os cs) (hn: ∀c∈cs,nl c) (hi:cs.all (inC ks)=true) (hz:σ.sz k=os.length:=by exact rfl) (hm:JT (σ.m k) os:=by first|exact DT|exact Do):D0 σ ks (k,cs):=by
 refine ⟨⟨hz.trans he.len,fun o d hd=>⟨?_,hn d (List.mem_of_getElem? hd)⟩⟩,hi⟩
 have hq:o<os.length:=by rw [he.len];exact (List.getElem?_eq_some_iff.1 hd).1
 show Aa (σ.m k o) d
 rw [hm o _ (Xw hq)]
 exact he.get o _ d (Xw hq) hd
theorem Fd: ∀ {l:List C},EntL l l
 | []=> .nil
 | c::l=> .cons (Aa.of_eq rfl) Fd
end Go.Proofs.YtfineedhebhpaaaGreatDoor
