/-
  Several texts in one: Zda, Zdb.
-/
import Derived.Test.YtkmalkcgkcpcmaaGreatDoorHy
import Derived.Test.YtkmalkcgkcpcmaaGreatDoorId
namespace Go.Proofs.YtkmalkcgkcpcmaaGreatDoor
open Nat renaming le_refl→Yh
open List renaming getElem?_eq_getElem→Yi
open Go.RowKit
set_option linter.unusedVariables false
set_option linter.unusedSimpArgs false
section
variable {P:Program} {X:Ctx} {ops l:List Oper} {σ:St} {K:List Eff→St→Prop} {s:Nat→AV} {z:Nat→Nat}
variable {dst:Option Tmp} {ty:TypeId} {pos:String} {af:Array Edge} {gd:Option (Nat×Bool)}
theorem Q8 {t e:TypeId} {lo co:Operand} {agg:Bool} {n bytes:Nat} {zv:Value} [S:Sle P t e agg n bytes zv] {kl kc:IntKind} {cap id:Nat} (hd: ∀t,dst=some t→t<X.n) (hl:evC s lo= .one (.v (.int kl (cap:Nat)))) (hc:evC s co= .one (.v (.int kc (cap:Nat))))
  (hb:bytes*cap≤281474976710656) (hb2:cap≤9223372036854775807) (hp:0<cap):
  Sim P X ⟨dst,.makeSlice t lo co,ty,pos,af,gd⟩ s z ⟨.one (.sx id 0 cap cap n),[],[],[(id,BQ cap zv.cells.toList)]⟩:=by
 refine Sim.of0 fun W=>?_
 replace hd: ∀t,dst=some t→t<(X.at W).n:=hd
 generalize X.at W=X at hd⊢
 intro σ hs hsz _ hal a w hcn K Q hK
 obtain ⟨μ,hcn⟩:=hcn
 obtain ⟨hid,hne⟩:=hal.1 _ List.mem_cons_self
 obtain ⟨inf,hi,hz,hsize,hby⟩:=S.info
 have hn:=S.pos
 have h1:=hcn.ev lo
 replace h1:=CE (o:=⟨dst,.makeSlice t lo co,ty,pos,af,gd⟩) hs (by simp [Op.operands]) h1
 rw [hl] at h1
 replace h1:a.eval lo= .int kl (cap:Int):=h1
 have h2:=hcn.ev co
 replace h2:=CE (o:=⟨dst,.makeSlice t lo co,ty,pos,af,gd⟩) hs (by simp [Op.operands]) h2
 rw [hc] at h2
 replace h2:a.eval co= .int kc (cap:Int):=h2
 have hzs:=S.size
 have hr:=run_make (P:=P) w t e inf zv S.hu hi hz kl kc (cap:Int) (cap:Int) (by omega) (by omega) (by rw [hby];rw [←Int.natCast_mul];omega) (by omega)
 simp only [Int.toNat_natCast,hsize] at hr
 have hrun:(execOp a.eval ⟨dst,.makeSlice t lo co,ty,pos,af,gd⟩).run P w= .ok (.value (.slice (some ⟨w.heap.size,0,none⟩) cap cap)) (w.alloc (.cells (madeCells zv.cells (cap*n)) e)):=by
  simp [execOp,h1,h2,hr]
 unfold Oper.wp
 rw [hrun]
 have hkp:Kp w (w.alloc (.cells (madeCells zv.cells (cap*n)) e)):=(Below.refl _ _).alloc (Yh _) _
 have hall:=Eu (W0:=X.W0) (μ:=μ) (sz:=σ.sz) (w:=w.alloc (.cells (madeCells zv.cells (cap*n)) e)) (z:=zv.cells) (by omega) cap
 rw [hzs] at hall
 have hzl:(BQ cap zv.cells.toList).length=cap*n:=by rw [Di];simp [hzs]
 have hnew:=hcn.new (id:=id) hid (w':=w.alloc (.cells (madeCells zv.cells (cap*n)) e)) (g:=w.heap.size) (vs:=madeCells zv.cells (cap*n)) (e:=e) (cs:=BQ cap zv.cells.toList) hkp (Yh _) (heap_alloc_new w _) hne
  (by rw [hzl,size_madeCells];exact Yh _) (fun o x hx=>Jv S.nl (by omega) hx) (fun o x c hx hcc=>hall.2 o x c (by simpa using hx) hcc) (Hk S.nl cap)
 refine hK _ _ ⟨upd μ id (w.heap.size,(madeCells zv.cells (cap*n)).size),?_⟩
 refine Cg hnew (d:=dst) hd (v:= .slice (some ⟨w.heap.size,0,none⟩) cap cap) (av:= .one (.sx id 0 cap cap n)) ⟨by rw [A7,Nat.zero_mul],Yh _,by rw [A7,size_madeCells,Nat.zero_add];exact Yh _,?_⟩
 show upd σ.sz id _ id≠0
 rw [A7]
 intro h0
 exact hne (List.eq_nil_of_length_eq_zero h0)
theorem UQ {d:Nat} {t e:TypeId} {lo co:Operand} {agg:Bool} {n bytes:Nat} {zv:Value} [S:Sle P t e agg n bytes zv] {kl kc:IntKind} {cap:Nat} (hp:0<cap) (hb:bytes*cap≤281474976710656) (hb2:cap≤9223372036854775807) (hg:gOk ops σ.s gd:=by first|exact trivial|exact rfl) (hd:dB X.n (some d)=true:=by exact rfl) (hx:evC σ.s lo= .one (.v (.int kl (cap:Nat))):=by exact rfl) (hy:evC σ.s co= .one (.v (.int kc (cap:Nat))):=by exact rfl) (hf:Nat.beq (σ.sz d) 0=true:=by exact rfl)
  (hl:Ag P X ops l (σ.app (some d) ⟨.one (.sx d 0 cap cap n),[],[],[(d,BQ cap zv.cells.toList)]⟩) (fun es σ'=>K (⟨.one (.sx d 0 cap cap n),[],[],[(d,BQ cap zv.cells.toList)]⟩::es) σ')):Ag P X ops (⟨some d,.makeSlice t lo co,ty,pos,af,gd⟩::l) σ K:=
 .of (fun _ _ hl=>Run.step hg (Q8 (CX hd) hx hy hb hb2 hp) (fun p hp=>by cases hp) (Fb (by simpa using hf) fun h0=>by
  have h1:(BQ cap zv.cells.toList).length=0:=by rw [h0];rfl
  rw [Di] at h1
  have:=Nat.mul_pos hp S.pos
  have h2:=S.size
  simp [h2] at h1
  omega) hl) hl
theorem Aa.sxGl {k len cap es:Nat} (h:0<len):Aa (.sx k 0 len cap es) (.gl k len es):=fun W0 μ sz w x hx=>by
 obtain ⟨h1,h2,h3,h4⟩:=hx
 rw [Nat.zero_mul] at h1
 rw [Nat.zero_add] at h3
 exact ⟨_,cap,h1,h2,fun h0=>by omega,fun _=>⟨rfl,h3,h4⟩⟩
theorem OZ {t e:TypeId} {x:Operand} {lo hi:Option Operand} {agg:Bool} {n bytes:Nat} {zv:Value} [S:Sle P t e agg n bytes zv] {k off len cap a h:Nat} (hx:evC s x= .one (.sx k off len cap n)) (hh:Bnd s len hi h) (hl:Bnd s 0 lo a) (h1:a≤h) (h2:h≤cap) (h3:a<cap):
  C8 P ⟨dst,.slice t x lo hi none,ty,pos,af,gd⟩ s (.one (.sx k (off+a) (h-a) (cap-a) n)):=fun W0 μ sz w ρ hρ=>by
 have e1:=hρ x (by simp [Op.operands])
 rw [hx] at e1
 obtain ⟨hp,hlc,hmu,hk⟩:=e1
 have rh: ∀v,hi=some v→(Instr.sliceBound (ρ v) cap .sliceAcap).run P w= .ok h w:=fun v hv=>by
  subst hv
  exact IR hh (hρ v (by simp [Op.operands])) (by omega)
 have rl: ∀v,lo=some v→(Instr.sliceBound (ρ v) h .sliceB).run P w= .ok a w:=fun v hv=>by
  subst hv
  exact IR hl (hρ v (by simp [Op.operands])) h1
 have rb:(Instr.sliceBounds true len cap (lo.map ρ) (hi.map ρ) none).run P w= .ok (a,h,cap) w:=by
  unfold Instr.sliceBounds
  cases hi with
  | none=>
    cases hh
    cases lo with
    | none=>cases hl;rfl
    | some v=>
      have:=rl v rfl
      simp [this]
  | some u=>
    cases lo with
    | none=>cases hl;simp [rh u rfl]
    | some v=>simp [rh u rfl,rl v rfl]
 have hc0: ¬cap=a:=by omega
 refine ⟨.slice (some ⟨(μ k).1,(off+a)*n,none⟩) (h-a) (cap-a),?_,rfl,by omega,?_,hk⟩
 ·simp [execOp,Instr.sliceAt,Instr.slice,run_underlying S.hu w,hp,rb,S.tsz.size w,hc0,Addr.add_mid,Nat.add_mul]
 ·rw [show off+a+(cap-a)=off+cap by omega];exact hmu
theorem PP {t e:TypeId} {x:Operand} {lo hi:Option Operand} {agg:Bool} {n bytes:Nat} {zv:Value} [S:Sle P t e agg n bytes zv] {k off len cap a h:Nat} (h1:a≤h) (h2:h≤cap) (h3:a<cap) (hlo:Bnd σ.s 0 lo a) (hhi:Bnd σ.s len hi h) (hg:gOk ops σ.s gd:=by first|exact trivial|exact rfl) (hd:dB X.n dst=true:=by exact rfl) (hx:evC σ.s x= .one (.sx k off len cap n):=by exact rfl)
  (hl:Ag P X ops l (σ.app dst ⟨.one (.sx k (off+a) (h-a) (cap-a) n),[],[],[]⟩) (fun es σ'=>K (⟨.one (.sx k (off+a) (h-a) (cap-a) n),[],[],[]⟩::es) σ')):Ag P X ops (⟨dst,.slice t x lo hi none,ty,pos,af,gd⟩::l) σ K:=
 BR (o:=⟨dst,.slice t x lo hi none,ty,pos,af,gd⟩) hg hd (OZ (S:=S) hx hhi hlo h1 h2 h3) hl
theorem Lx (w:World) (t tx ty e:TypeId) (i:TypeInfo) (ht:P.underlying t=some (.slice e)) (hi:P.info? e=some i) (b off dLen dCap:Nat) (a:Addr) (sLen sCap n:Nat) (hn:n=min sLen dLen) (news:List Value) (hnl:news.length=n*i.size) (hr: ∀j u,news[j]?=some u→w.cell? (a.add j)=some u) (hone: ∀u∈news,u.oneCell'=true)
  (hc: ∀j,j<news.length→(w.cell? ⟨b,off+j,none⟩).isSome=true) (hf: ∀j,j<news.length→w.frozen? ⟨b,off+j,none⟩=false):
  (Builtin.copy_ #[t,tx] ty #[.slice (some ⟨b,off,none⟩) dLen dCap,.slice (some a) sLen sCap]).run P w= .ok (goInt n) (w.setCells b off news):=by
 have hst:=run_storeCells_cells (P:=P) b off news 0 w (by simpa using hc) (by simpa using hf) hone
 simp only [Nat.add_zero] at hst
 have hm:Nat.min sLen dLen=n:=hn.symm
 have hfc:=run_firstCells_some (P:=P) (w:=w) i.size n a sLen sCap news hnl hr
 simp [Builtin.copy_,run_underlying ht,sizeOf,typeInfo,hi,Builtin.lenOf,hm,hfc,hst]
theorem Oo {t tx e:TypeId} {x y:Operand} {agg:Bool} {n bytes:Nat} {zv:Value} [S:Sle P t e agg n bytes zv] {k off len cap k2 off2 m cap2 q:Nat} {os:List C} (hd: ∀t,dst=some t→t<X.n)
  (hx:evC s x= .one (.sx k off len cap n)) (hy:evC s y= .one (.sx k2 off2 m cap2 n)) (hq:q=min m len) (hp:0<q) (hol:os.length=q*n) (hz:off*n+q*n≤z k) (hz2:off2*n+q*n≤z k2):
  Sim P X ⟨dst,.call ⟨.builtin .copy,#[x,y],#[t,tx]⟩,ty,pos,af,gd⟩ s z ⟨.one (.v (.int .i64 q)),[(k2,off2*n,os)],[(k,off*n,os)],[]⟩:=by
 refine Sim.of0 fun W=>?_
 replace hd: ∀t,dst=some t→t<(X.at W).n:=hd
 generalize X.at W=X at hd⊢
 intro σ hs hsz hrd _ a w hc K Q hK
 obtain ⟨μ,hc⟩:=hc
 have hn:=S.pos
 have hpn:=Nat.mul_pos hp hn
 obtain ⟨inf,hi,hzr,hsize,hbye⟩:=S.info
 have h1:=hc.ev x
 replace h1:=CE (o:=⟨dst,.call ⟨.builtin .copy,#[x,y],#[t,tx]⟩,ty,pos,af,gd⟩) hs (by simp [Op.operands,Call.operands]) h1
 rw [hx] at h1
 obtain ⟨e1,hlc,hmu,hk⟩:=h1
 have h2:=hc.ev y
 replace h2:=CE (o:=⟨dst,.call ⟨.builtin .copy,#[x,y],#[t,tx]⟩,ty,pos,af,gd⟩) hs (by simp [Op.operands,Call.operands]) h2
 rw [hy] at h2
 obtain ⟨e2,hlc2,hmu2,hk2⟩:=h2
 have hzk:σ.sz k=z k:=by rcases hsz k (by omega) with h|h;exact absurd h hk;exact h
 have hzk2:σ.sz k2=z k2:=by rcases hsz k2 (by omega) with h|h;exact absurd h hk2;exact h
 obtain ⟨vs,hvl,hr,_,hv⟩:=hc.slice (k:=k2) (off:=off2*n) (n:=q*n) hk2 (by omega)
 have hm: ∀(i:Nat) c,os[i]?=some c→σ.m k2 (off2*n+i)=c:=fun i c hi=>hrd (k2,off2*n,os) (by simp) i c hi
 have hall:Ch (cc X.W0 μ σ.sz w) vs os:=⟨by omega,fun i v c hvi hci=>by rw [←hm i c hci];exact (hv i v hvi).1⟩
 have hnl: ∀c∈os,nl c:=fun c hcm=>by
  obtain ⟨i,hi1,hi2⟩:=List.getElem_of_mem hcm
  have hi3:i<vs.length:=by omega
  have h3:=(hv i _ (Yi hi3)).2
  rwa [hm i c (by rw [Yi hi1,hi2])] at h3
 have hone: ∀u∈vs,u.oneCell'=true:=fun u hu=>by
  obtain ⟨i,hi1,hi2⟩:=List.getElem_of_mem hu
  have h3:=hv i _ (Yi hi1)
  rw [hi2] at h3
  exact (h3.1.noL h3.2).2
 obtain ⟨_,_,_,hth,_⟩:=hc.slice (k:=k) (off:=off*n) (n:=q*n) hk (by omega)
 have hrun:=Lx (P:=P) w t tx ty e inf S.hu hi (μ k).1 (off*n) len cap ⟨(μ k2).1,off2*n,none⟩ m cap2 q hq vs (by rw [hsize];exact hvl) (fun j u hj=>by rw [Addr.add_mid];exact hr j u hj) hone (fun j hj=>(hth j (by omega)).1) (fun j hj=>(hth j (by omega)).2)
 have hrun2:(execOp a.eval ⟨dst,.call ⟨.builtin .copy,#[x,y],#[t,tx]⟩,ty,pos,af,gd⟩).run P w= .ok (.value (goInt q)) (w.setCells (μ k).1 (off*n) vs):=by
  simp [execOp,resolve,invoke,builtin,e1,e2,hrun]
 unfold Oper.wp
 rw [hrun2]
 refine hK _ _ ⟨μ,?_⟩
 exact Cg (hc.store (off:=off*n) hk hall hnl) (d:=dst) hd (v:=goInt q) (av:= .one (.v (.int .i64 q))) rfl
theorem Sj {t tx e:TypeId} {x y:Operand} {agg:Bool} {n bytes:Nat} {zv:Value} [S:Sle P t e agg n bytes zv] {k off len cap k2 off2 m cap2 q:Nat} {os:List C} (hq:q=min m len) (hp:0<q) (hol:os.length=q*n) (hz:off*n+q*n≤σ.sz k) (hz2:off2*n+q*n≤σ.sz k2) (hm: ∀(i:Nat) c,os[i]?=some c→σ.m k2 (off2*n+i)=c)
  (hg:gOk ops σ.s gd:=by first|exact trivial|exact rfl) (hd:dB X.n dst=true:=by exact rfl) (hx:evC σ.s x= .one (.sx k off len cap n):=by exact rfl) (hy:evC σ.s y= .one (.sx k2 off2 m cap2 n):=by exact rfl)
  (hl:Ag P X ops l (σ.app dst ⟨.one (.v (.int .i64 q)),[(k2,off2*n,os)],[(k,off*n,os)],[]⟩) (fun es σ'=>K (⟨.one (.v (.int .i64 q)),[(k2,off2*n,os)],[(k,off*n,os)],[]⟩::es) σ')):Ag P X ops (⟨dst,.call ⟨.builtin .copy,#[x,y],#[t,tx]⟩,ty,pos,af,gd⟩::l) σ K:=
 .of (fun _ _ hl=>Run.step hg (Oo (S:=S) (CX hd) hx hy hq hp hol hz hz2) (fun p hp=>by rw [List.mem_singleton.1 hp];exact hm) B8 hl) hl
theorem Oq {t tx e:TypeId} {x y:Operand} {agg:Bool} {n bytes:Nat} {zv:Value} [S:Sle P t e agg n bytes zv] {k off len cap m:Nat} {ds:List D} (hd: ∀t,dst=some t→t<X.n) (hux: ∃e,P.underlying tx=some (.slice e))
  (hx:evC s x= .one (.sx k off len cap n)) (hy:evC s y= .one (.ls n m ds)) (hml:m≤len) (hp:0<m) (hz:off*n+m*n≤z k):
  Sim P X ⟨dst,.call ⟨.builtin .copy,#[x,y],#[t,tx]⟩,ty,pos,af,gd⟩ s z ⟨.one (.v (.int .i64 m)),[],[(k,off*n,ds.map toC)],[]⟩:=by
 refine Sim.of0 fun W=>?_
 replace hd: ∀t,dst=some t→t<(X.at W).n:=hd
 generalize X.at W=X at hd⊢
 intro σ hs hsz _ _ a w hc K Q hK
 obtain ⟨μ,hc⟩:=hc
 have hn:=S.pos
 have hpn:=Nat.mul_pos hp hn
 obtain ⟨inf,hi,hzr,hsize,hbye⟩:=S.info
 obtain ⟨ex,hux⟩:=hux
 have h1:=hc.ev x
 replace h1:=CE (o:=⟨dst,.call ⟨.builtin .copy,#[x,y],#[t,tx]⟩,ty,pos,af,gd⟩) hs (by simp [Op.operands,Call.operands]) h1
 rw [hx] at h1
 obtain ⟨e1,hlc,hmu,hk⟩:=h1
 have h2:=hc.ev y
 replace h2:=CE (o:=⟨dst,.call ⟨.builtin .copy,#[x,y],#[t,tx]⟩,ty,pos,af,gd⟩) hs (by simp [Op.operands,Call.operands]) h2
 rw [hy] at h2
 replace h2:cc X.W0 μ σ.sz w (a.eval y) (.ls n m ds):=h2
 obtain ⟨vn,s2,a2,n2,hln⟩:=IJ (P:=P) hc hux hn h2 (Srcs.ls (σ:=σ))
 have hnl: ∀c∈ds.map toC,nl c:=fun c hcm=>by
  obtain ⟨i,hi1,hi2⟩:=List.getElem_of_mem hcm
  have hi3:i<vn.length:=by rw [a2.1];exact hi1
  have h3:=a2.2 i _ _ (Yi hi3) (Yi hi1)
  rw [hi2] at h3
  obtain ⟨d,_,rfl⟩:=List.mem_map.1 hcm
  exact Wi (Ij.1 h3) (n2 _ (List.getElem_mem hi3))
 have hzk:σ.sz k=z k:=by rcases hsz k (by omega) with h|h;exact absurd h hk;exact h
 have hvn:vn.length=m*n:=a2.1.trans hln
 obtain ⟨_,_,_,hth,_⟩:=hc.slice (k:=k) (off:=off*n) (n:=m*n) hk (by omega)
 have hrun:=GW (P:=P) w t tx ty e inf S.hu hi (μ k).1 (off*n) len cap (a.eval y) m vn (by rw [hsize];exact s2) hml (fun j hj=>(hth j (by omega)).1) (fun j hj=>(hth j (by omega)).2)
 have hrun2:(execOp a.eval ⟨dst,.call ⟨.builtin .copy,#[x,y],#[t,tx]⟩,ty,pos,af,gd⟩).run P w= .ok (.value (goInt m)) (w.setCells (μ k).1 (off*n) vn):=by
  simp [execOp,resolve,invoke,builtin,e1,hrun]
 unfold Oper.wp
 rw [hrun2]
 refine hK _ _ ⟨μ,?_⟩
 exact Cg (hc.store (off:=off*n) hk a2 hnl) (d:=dst) hd (v:=goInt m) (av:= .one (.v (.int .i64 m))) rfl
theorem Sk {α:Type} {f:α→List D} {la:List α} {t tx e:TypeId} {x y:Operand} {agg:Bool} {n bytes:Nat} {zv:Value} [S:Sle P t e agg n bytes zv] {k off len cap:Nat} (hux: ∃e,P.underlying tx=some (.slice e)) (hml:la.length≤len) (hp:0<la.length) (hz:off*n+la.length*n≤σ.sz k)
  (hg:gOk ops σ.s gd:=by first|exact trivial|exact rfl) (hd:dB X.n dst=true:=by exact rfl) (hx:evC σ.s x= .one (.sx k off len cap n):=by exact rfl) (hy:evC σ.s y= .one (lsG n f la):=by exact rfl)
  (hl:Ag P X ops l (σ.app dst ⟨.one (.v (.int .i64 la.length)),[],[(k,off*n,AE f la)],[]⟩) (fun es σ'=>K (⟨.one (.v (.int .i64 la.length)),[],[(k,off*n,AE f la)],[]⟩::es) σ')):Ag P X ops (⟨dst,.call ⟨.builtin .copy,#[x,y],#[t,tx]⟩,ty,pos,af,gd⟩::l) σ K:=
 .of (fun _ _ hl=>Run.step hg (Oq (S:=S) (CX hd) hux hx hy hml hp hz) (fun p hp=>by cases hp) B8 hl) hl
end
set_option maxRecDepth 20000
set_option maxHeartbeats 1000000
instance fun_mul64:Fun Tryz.prog 149:=⟨by kernel_rfl⟩
instance fun_bitsMul:Fun Tryz.prog 117:=⟨by kernel_rfl⟩
theorem VV {p:Nat} (hp:p<18446744073709551616):Ctr Tryz.prog Amb 149 [.one (.v (.int .u64 1)),.one (.v (.int .u64 (p:Nat)))] (.tup [.one (.v (.int .u64 0)),.one (.v (.int .u64 (p:Nat)))]):=
 JS fun W0 μ sz w u v ht hu hv=>by
  have hu:u= .int .u64 1:=hu
  have hv:v= .int .u64 (p:Nat):=hv
  subst hu
  subst hv
  refine (Tryz.bits_Mul64 1 p (by decide) hp w).mono ?_
  rintro e w' ⟨rfl,rfl⟩
  rw [Nat.one_mul,Nat.div_eq_of_lt hp,Nat.mod_eq_of_lt hp]
  refine ⟨_,rfl,Below.refl _ _,[.int .u64 0,.int .u64 (p:Nat)],rfl,rfl,fun i a b ha hb=>?_⟩
  match i with
  | 0=>simp at ha hb;subst ha;subst hb;rfl
  | 1=>simp at ha hb;subst ha;subst hb;rfl
  | i+2=>simp at ha
theorem R5 {p:Nat} (hp:p<1000000):Ctr Tryz.prog Amb 117 [.one (.v (.int .u64 1)),.one (.v (.int .u64 (p:Nat)))] (.tup [.one (.v (.int .u64 0)),.one (.v (.int .u64 (p:Nat)))]):=by
 have M1:=VV (p:=p) (by omega)
 refine As Tryz.func117 rfl rfl rfl rfl rfl rfl ?_
 intro W0 base D μ0 hA hD
 repeat (first
  | refine Ah ?_|refine Ad ?_|refine Ab rfl ?_|refine Ac rfl ?_
  | ((first|refine Al (by kernel_rfl) ?_|refine Aq (by kernel_rfl) (by kernel_rfl) (by kernel_rfl) ?_)
     repeat (first
      | refine An (hl:=?_)
      | refine Ai (hl:=?_)
      | refine AD (hl:=?_)
      | refine DD (hl:=?_)
      | refine Ap hA (hc:=M1) (hl:=?_))
     apply Ag.nil;try refine And.intro (by kernel_rfl) ?_)
  | refine Ae ?_|refine Af ?_)
 refine AG (And.intro (Or.inr rfl) ?_)
 exact CW
theorem Uz {α:Type} {f:α→List D} {n:Nat} (hf:Elm n f) {σ:St} {ks:List Nat} {k:Nat} {l la:List α} {i:Nat} (hi:i+la.length≤l.length) (hz:σ.sz k=(AE f l).length:=by exact rfl) (hm:σ.m k=laid (GY (AE f l)) (i*n) (AE f la):=by exact rfl):DX σ ks (k,AE f (l.take i++la++l.drop (i+la.length))):=by
 have hll:(l.take i++la++l.drop (i+la.length)).length=l.length:=by
  rw [List.length_append,List.length_append,List.length_take,List.length_drop];omega
 refine ⟨⟨by show σ.sz k=_;rw [hz,BF hf,BF hf,hll],fun o c hc=>⟨?_,Ea hf _ c (List.mem_of_getElem? hc)⟩⟩,DP ks _⟩
 show Aa (σ.m k o) c
 rw [hm]
 have e1:AE f (l.take i++la++l.drop (i+la.length))=AE f (l.take i)++AE f la++AE f (l.drop (i+la.length)):=by simp [AE]
 have ap: ∀u v:List α,AE f u++AE f v=AE f (u++v):=fun u v=>by simp [AE]
 have e2:AE f l=AE f (l.take i)++AE f (l.drop i):=by rw [ap,List.take_append_drop]
 have e3:AE f (l.drop i)=AE f ((l.drop i).take la.length)++AE f (l.drop (i+la.length)):=by
  have:=List.take_append_drop la.length (l.drop i)
  rw [List.drop_drop] at this
  rw [ap,this]
 have l1:(AE f (l.take i)).length=i*n:=by rw [BF hf,List.length_take,Nat.min_eq_left (by omega)]
 have l2:(AE f la).length=la.length*n:=BF hf la
 have l3:(AE f ((l.drop i).take la.length)).length=la.length*n:=by rw [BF hf,List.length_take,List.length_drop,Nat.min_eq_left (by omega)]
 have hc:(AE f (l.take i++la++l.drop (i+la.length)))[o]?=some c:=hc
 rw [e1,List.append_assoc] at hc
 by_cases h1:o<i*n
 ·rw [List.getElem?_append_left (by omega)] at hc
  rw [DT (by omega)]
  refine Aa.of_eq (DM ?_)
  rw [e2,List.getElem?_append_left (by omega)]
  exact hc
 ·rw [List.getElem?_append_right (by omega),l1] at hc
  by_cases h2:o-i*n<la.length*n
  ·rw [List.getElem?_append_left (by omega)] at hc
   obtain ⟨q,rfl⟩: ∃q,o=i*n+q:=⟨o-i*n,by omega⟩
   rw [Nat.add_sub_cancel_left] at hc
   rw [Dy hc]
   exact Aa.of_eq rfl
  ·rw [List.getElem?_append_right (by omega),l2] at hc
   rw [DT (by omega)]
   refine Aa.of_eq (DM ?_)
   rw [e2,List.getElem?_append_right (by omega),l1,e3,List.getElem?_append_right (by omega),l3]
   exact hc
theorem SP {j p:Nat} {t:Rat} (hp:1≤p∧p≤1000):Ctr Tryz.prog Amb 89 [.one (Ax j [t]),Aj (p:Nat)] (.one (Ax j (List.replicate p t))):=by
 have b0:=BO (k:= .i64) (decide_eq_false (show ¬((p:Nat):Int)<0 by omega))
 have w1:(IntKind.u64).wrap ((p:Nat):Int)=((p:Nat):Int):=by simp [IntKind.wrap,IntKind.bits,IntKind.signed];omega
 have w2:(IntKind.i64).wrap ((p:Nat):Int)=((p:Nat):Int):=IntWalk.i64_in _ (by omega)
 have M1:=R5 (p:=p) (by omega)
 have g1:=D4 (k:= .u64) (decide_eq_false (show ¬((p:Nat):Int)>9223372036854775807 by omega))
 obtain ⟨R,hR⟩: ∃R,R=List.replicate p t:=⟨_,rfl⟩
 have hRl:R.length=p:=by rw [hR,List.length_replicate]
 rw [←hR]
 refine As Tryz.func89 rfl rfl rfl rfl rfl rfl ?_
 intro W0 base D μ0 hA hD
 repeat (first
  | refine Ah ?_|refine Ad ?_|refine Ab rfl ?_|refine Ac rfl ?_
  | ((first|refine Al (by kernel_rfl) ?_|refine Aq (by kernel_rfl) (by kernel_rfl) (by kernel_rfl) ?_)
     repeat (first
      | refine UQ (cap:=p) (by omega) (by omega) (by omega) (hl:=?_)
      | refine A8 (hl:=?_)
      | refine An (hl:=?_)
      | refine Ai (hl:=?_)
      | refine AD (hl:=?_)
      | refine AC (hl:=?_)
      | refine AM (hl:=?_)
      | refine AN (hl:=?_)
      | refine DD (hl:=?_)
      | refine AJ (hl:=?_)
      | refine AI (hl:=?_)
      | refine AK (hl:=?_)
      | refine AH (hl:=?_)
      | refine Ap hA (hc:=M1) (hl:=?_))
     apply Ag.nil;try refine And.intro (by kernel_rfl) ?_)
  | refine Ae ?_|refine Af ?_)
 refine BW (ss:= [(0,.one (Ax j [t])),(7,.one (.sx 30 0 p p 3))]) (bs:= [(30,AE (nmD j) (List.replicate p 0))]) ?_ ?_
 ·exact BH
 have hz0:0*3+([t]:List Rat).length*3≤(AE (nmD j) (List.replicate p (0:Rat))).length:=by rw [BF (n:=3) inferInstance,List.length_replicate];simp;omega
 repeat (first
  | refine Ah ?_|refine Ad ?_|refine Ab rfl ?_|refine Ac rfl ?_
  | ((first|refine Al (by kernel_rfl) ?_|refine Aq (by kernel_rfl) (by kernel_rfl) (by kernel_rfl) ?_)
     repeat (first
      | refine Sk (k:=30) (off:=0) (f:=nmD j) (la:= [t]) ⟨_,rfl⟩ hp.1 Nat.one_pos hz0 (hl:=?_)
      | refine A8 (hl:=?_)
      | refine An (hl:=?_)
      | refine Ai (hl:=?_)
      | refine AD (hl:=?_)
      | refine AC (hl:=?_)
      | refine AM (hl:=?_)
      | refine AN (hl:=?_)
      | refine DD (hl:=?_)
      | refine AJ (hl:=?_)
      | refine AI (hl:=?_)
      | refine AK (hl:=?_)
      | refine AH (hl:=?_))
     apply Ag.nil;try refine And.intro (by kernel_rfl) ?_)
  | refine Ae ?_|refine Af ?_)
 refine Cq (fun m σ=> ∃n:Nat,m=p-n∧1≤n∧n≤p∧Wk ⟨W0,base,D,48,[],μ0⟩ σ [(7,.one (.sx 30 0 p p 3)),(8,Aj (n:Nat))] [(30,AE (nmD j) (List.replicate n t++List.replicate (p-n) 0))]) (n:=p-1) ⟨1,rfl,Yh _,hp.1,?_⟩ ?_
 ·have e:List.replicate 1 t++List.replicate (p-1) 0=(List.replicate p (0:Rat)).set 0 t:=by
   obtain ⟨q,rfl⟩: ∃q,p=q+1:=⟨p-1,by omega⟩
   rfl
  rw [e]
  refine D3 ?_ ?_ rfl
  ·exact List.forall_mem_cons.2 ⟨Ent.of_eq rfl,List.forall_mem_cons.2 ⟨Ent.of_eq rfl,AR⟩⟩
  ·exact List.forall_mem_cons.2 ⟨Hg inferInstance (i:=0) (by rw [List.length_replicate];omega) (cs:=AE (nmD j) [t]) (EntL.of_eq rfl),AR⟩
 clear b0 w1 w2 M1 g1 hz0
 intro m σ hI
 obtain ⟨n,hm,hn1,hn2,hw⟩:=hI
 refine BW hw ?_
 clear hw
 by_cases hi:n<p
 ·have bi:=BO (k:= .i64) (decide_eq_true (show ((n:Nat):Int)<((p:Nat):Int) by omega))
  obtain ⟨q,hq⟩: ∃q,q=min (n-0) (p-n):=⟨_,rfl⟩
  have hq1:0<q:=by omega
  have hin:=AZ (k:= .i64) (show (IntKind.i64).wrap (((n:Nat):Int)+((q:Nat):Int))=((n+q:Nat):Int) by rw [show ((n:Nat):Int)+((q:Nat):Int)=((n+q:Nat):Int) by omega];exact IntWalk.i64_in _ (by omega))
  obtain ⟨L,hL⟩: ∃L,L=List.replicate n t++List.replicate (p-n) 0:=⟨_,rfl⟩
  have hLl:L.length=p:=by rw [hL,List.length_append,List.length_replicate,List.length_replicate];omega
  have hol:(AE (nmD j) (List.replicate q t)).length=q*3:=by rw [BF (n:=3) inferInstance,List.length_replicate]
  have hbl:(AE (nmD j) L).length=p*3:=by rw [BF (n:=3) inferInstance,hLl]
  have hz1:(0+n)*3+q*3≤(AE (nmD j) L).length:=by rw [hbl];omega
  have hz2:(0+0)*3+q*3≤(AE (nmD j) L).length:=by rw [hbl];omega
  have hrd: ∀(i:Nat) c,(AE (nmD j) (List.replicate q t))[i]?=some c→GY (AE (nmD j) L) ((0+0)*3+i)=c:=fun i c hc=>by
   rw [show (0+0)*3+i=i by omega]
   refine DM ?_
   have e:L=List.replicate q t++(List.replicate (n-q) t++List.replicate (p-n) 0):=by
    rw [hL,←List.append_assoc,List.replicate_append_replicate,show q+(n-q)=n by omega]
   have e2:AE (nmD j) L=AE (nmD j) (List.replicate q t)++AE (nmD j) (List.replicate (n-q) t++List.replicate (p-n) 0):=by rw [e];simp [AE]
   rw [e2,List.getElem?_append_left (List.getElem?_eq_some_iff.1 hc).1]
   exact hc
  have hnext:L.take (0+n)++List.replicate q t++L.drop (0+n+(List.replicate q t).length)=List.replicate (n+q) t++List.replicate (p-(n+q)) 0:=by
   rw [hL,Nat.zero_add,List.length_replicate,List.take_append_of_le_length (by simp),List.drop_append,List.take_of_length_le (by simp),List.drop_of_length_le (by simp),List.length_replicate,Nat.add_sub_cancel_left,List.drop_replicate,List.replicate_append_replicate,List.nil_append,show p-n-q=p-(n+q) by omega]
  rw [←hL]
  repeat (first
   | refine Ah ?_|refine Ad ?_|refine Ab rfl ?_|refine Ac rfl ?_
   | ((first|refine Al (by kernel_rfl) ?_|refine Aq (by kernel_rfl) (by kernel_rfl) (by kernel_rfl) ?_)
      repeat (first
       | refine A8 (hl:=?_)
       | refine An (hl:=?_)
       | refine Ai (hl:=?_)
       | refine AD (hl:=?_)
       | refine AC (hl:=?_)
       | refine AM (hl:=?_)
       | refine AN (hl:=?_)
       | refine DD (hl:=?_)
       | refine AJ (hl:=?_)
       | refine AI (hl:=?_)
       | refine AK (hl:=?_)
       | refine AH (hl:=?_)
       | refine PP (k:=30) (off:=0) (len:=p) (cap:=p) (a:=n) (h:=p) (by omega) (by omega) (by omega) (.some rfl rfl) .none (hl:=?_)
       | refine PP (k:=30) (off:=0) (len:=p) (cap:=p) (a:=0) (h:=n) (by omega) (by omega) (by omega) .none (.some rfl rfl) (hl:=?_)
       | refine Sj (k:=30) (k2:=30) (off:=0+n) (off2:=0+0) (q:=q) (os:=AE (nmD j) (List.replicate q t)) hq hq1 hol hz1 hz2 hrd (hl:=?_))
      apply Ag.nil;try refine And.intro (by kernel_rfl) ?_)
   | refine Ae ?_|refine Af ?_)
  refine ⟨p-(n+q),by omega,n+q,rfl,by omega,by omega,?_⟩
  rw [←hnext]
  refine D3 ?_ ?_ rfl
  ·exact List.forall_mem_cons.2 ⟨Ent.of_eq rfl,List.forall_mem_cons.2 ⟨Ent.of_eq rfl,AR⟩⟩
  ·exact List.forall_mem_cons.2 ⟨Uz inferInstance (by rw [List.length_replicate,hLl];omega),AR⟩
 ·have bi:=BO (k:= .i64) (decide_eq_false (show ¬((n:Nat):Int)<((p:Nat):Int) by omega))
  obtain rfl:n=p:=by omega
  have e:List.replicate n t++List.replicate (n-n) 0=R:=by rw [Nat.sub_self,hR];simp
  rw [e]
  repeat (first
   | refine Ah ?_|refine Ad ?_|refine Ab rfl ?_|refine Ac rfl ?_
   | ((first|refine Al (by kernel_rfl) ?_|refine Aq (by kernel_rfl) (by kernel_rfl) (by kernel_rfl) ?_)
      repeat (first
       | refine A8 (hl:=?_)
       | refine An (hl:=?_)
       | refine Ai (hl:=?_)
       | refine AD (hl:=?_)
       | refine AC (hl:=?_)
       | refine AM (hl:=?_)
       | refine AN (hl:=?_)
       | refine DD (hl:=?_)
       | refine AJ (hl:=?_)
       | refine AI (hl:=?_)
       | refine AK (hl:=?_)
       | refine AH (hl:=?_))
      apply Ag.nil;try refine And.intro (by kernel_rfl) ?_)
   | refine Ae ?_|refine Af ?_)
  refine BW (ss:= [(4,.one (.gl 30 R.length 3))]) (bs:= [(30,AE (nmD j) R)]) ?_ ?_
  ·rw [hRl]
   refine D3 ?_ ?_ rfl
   ·exact List.forall_mem_cons.2 ⟨Ent.one' rfl (Aa.sxGl (by omega)),AR⟩
   ·exact List.forall_mem_cons.2 ⟨C6 inferInstance,AR⟩
  refine Dq 30 hD (ss:= [(4,.one (Ax j R))]) (bs:= []) ?_ ?_
  ·exact NM
  refine AG (And.intro (Or.inr rfl) ?_)
  exact B7
end Go.Proofs.YtkmalkcgkcpcmaaGreatDoor
