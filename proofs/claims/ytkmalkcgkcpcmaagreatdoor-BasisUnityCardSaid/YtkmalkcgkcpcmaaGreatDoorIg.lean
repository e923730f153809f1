/-
  Several texts in one: Zda, Zdb, Zdc.
-/
import Derived.Test.YtkmalkcgkcpcmaaGreatDoorHy
import Derived.Test.YtkmalkcgkcpcmaaGreatDoorId
namespace Go.Proofs.YtkmalkcgkcpcmaaGreatDoor
open Nat renaming le_refl→Yi
open List renaming getElem?_eq_getElem→Yk,replicate→Yj
open Go.RowKit
set_option linter.unusedVariables false
set_option linter.unusedSimpArgs false
section
variable {P:Program} {X:Ctx} {ops l:List Oper} {σ:St} {K:List Eff→St→Prop} {s:Nat→AV} {z:Nat→Nat}
variable {dst:Option Tmp} {ty:TypeId} {pos:String} {af:Array Edge} {gd:Option (Nat×Bool)}
theorem Q4 {t e:TypeId} {lo co:Operand} {agg:Bool} {n bytes:Nat} {zv:Value} [S:Sle P t e agg n bytes zv] {kl kc:IntKind} {cap id:Nat} (hd: ∀t,dst=some t→t<X.n) (hl:evC s lo= .one (.v (.int kl (cap:Nat)))) (hc:evC s co= .one (.v (.int kc (cap:Nat))))
  (hb:bytes*cap≤281474976710656) (hb2:cap≤9223372036854775807) (hp:0<cap):
  Sim P X ⟨dst,.makeSlice t lo co,ty,pos,af,gd⟩ s z ⟨.one (.sx id 0 cap cap n),[],[],[(id,BK cap zv.cells.toList)]⟩:=by
 refine Sim.of0 fun W=>?_
 replace hd: ∀t,dst=some t→t<(X.at W).n:=hd
 generalize X.at W=X at hd⊢
 intro σ hs hsz _ hal a w hcn K Q hK
 obtain ⟨μ,hcn⟩:=hcn
 obtain ⟨hid,hne⟩:=hal.1 _ List.mem_cons_self
 obtain ⟨inf,hi,hz,hsize,hby⟩:=S.info
 have hn:=S.pos
 have h1:=hcn.ev lo
 replace h1:=B6 (o:=⟨dst,.makeSlice t lo co,ty,pos,af,gd⟩) hs (by simp [Op.operands]) h1
 rw [hl] at h1
 replace h1:a.eval lo= .int kl (cap:Int):=h1
 have h2:=hcn.ev co
 replace h2:=B6 (o:=⟨dst,.makeSlice t lo co,ty,pos,af,gd⟩) hs (by simp [Op.operands]) h2
 rw [hc] at h2
 replace h2:a.eval co= .int kc (cap:Int):=h2
 have hzs:=S.size
 have hr:=run_make (P:=P) w t e inf zv S.hu hi hz kl kc (cap:Int) (cap:Int) (by omega) (by omega) (by rw [hby];rw [←Int.natCast_mul];omega) (by omega)
 simp only [Int.toNat_natCast,hsize] at hr
 have hrun:(execOp a.eval ⟨dst,.makeSlice t lo co,ty,pos,af,gd⟩).run P w= .ok (.value (.slice (some ⟨w.heap.size,0,none⟩) cap cap)) (w.alloc (.cells (madeCells zv.cells (cap*n)) e)):=by
  simp [execOp,h1,h2,hr]
 unfold Oper.wp
 rw [hrun]
 have hkp:Kp w (w.alloc (.cells (madeCells zv.cells (cap*n)) e)):=(Below.refl _ _).alloc (Yi _) _
 have hall:=Er (W0:=X.W0) (μ:=μ) (sz:=σ.sz) (w:=w.alloc (.cells (madeCells zv.cells (cap*n)) e)) (z:=zv.cells) (by omega) cap
 rw [hzs] at hall
 have hzl:(BK cap zv.cells.toList).length=cap*n:=by rw [Dc];simp [hzs]
 have hnew:=hcn.new (id:=id) hid (w':=w.alloc (.cells (madeCells zv.cells (cap*n)) e)) (g:=w.heap.size) (vs:=madeCells zv.cells (cap*n)) (e:=e) (cs:=BK cap zv.cells.toList) hkp (Yi _) (heap_alloc_new w _) hne
  (by rw [hzl,size_madeCells];exact Yi _) (fun o x hx=>Jl S.nl (by omega) hx) (fun o x c hx hcc=>hall.2 o x c (by simpa using hx) hcc) (Hd S.nl cap)
 refine hK _ _ ⟨upd μ id (w.heap.size,(madeCells zv.cells (cap*n)).size),?_⟩
 refine BT hnew (d:=dst) hd (v:= .slice (some ⟨w.heap.size,0,none⟩) cap cap) (av:= .one (.sx id 0 cap cap n)) ⟨by rw [AQ,Nat.zero_mul],Yi _,by rw [AQ,size_madeCells,Nat.zero_add];exact Yi _,?_⟩
 show upd σ.sz id _ id≠0
 rw [AQ]
 intro h0
 exact hne (List.eq_nil_of_length_eq_zero h0)
theorem UV {d:Nat} {t e:TypeId} {lo co:Operand} {agg:Bool} {n bytes:Nat} {zv:Value} [S:Sle P t e agg n bytes zv] {kl kc:IntKind} {cap:Nat} (hp:0<cap) (hb:bytes*cap≤281474976710656) (hb2:cap≤9223372036854775807) (hg:gOk ops σ.s gd:=by first|exact trivial|exact rfl) (hd:dB X.n (some d)=true:=by exact rfl) (hx:evC σ.s lo= .one (.v (.int kl (cap:Nat))):=by exact rfl) (hy:evC σ.s co= .one (.v (.int kc (cap:Nat))):=by exact rfl) (hf:Nat.beq (σ.sz d) 0=true:=by exact rfl)
  (hl:Ab P X ops l (σ.app (some d) ⟨.one (.sx d 0 cap cap n),[],[],[(d,BK cap zv.cells.toList)]⟩) (fun es σ'=>K (⟨.one (.sx d 0 cap cap n),[],[],[(d,BK cap zv.cells.toList)]⟩::es) σ')):Ab P X ops (⟨some d,.makeSlice t lo co,ty,pos,af,gd⟩::l) σ K:=
 .of (fun _ _ hl=>Run.step hg (Q4 (Cw hd) hx hy hb hb2 hp) (fun p hp=>by cases hp) (En (by simpa using hf) fun h0=>by
  have h1:(BK cap zv.cells.toList).length=0:=by rw [h0];rfl
  rw [Dc] at h1
  have:=Nat.mul_pos hp S.pos
  have h2:=S.size
  simp [h2] at h1
  omega) hl) hl
theorem Aa.sxGl {k len cap es:Nat} (h:0<len):Aa (.sx k 0 len cap es) (.gl k len es):=fun W0 μ sz w x hx=>by
 obtain ⟨h1,h2,h3,h4⟩:=hx
 rw [Nat.zero_mul] at h1
 rw [Nat.zero_add] at h3
 exact ⟨_,cap,h1,h2,fun h0=>by omega,fun _=>⟨rfl,h3,h4⟩⟩
theorem OQ {t e:TypeId} {x:Operand} {lo hi:Option Operand} {agg:Bool} {n bytes:Nat} {zv:Value} [S:Sle P t e agg n bytes zv] {k off len cap a h:Nat} (hx:evC s x= .one (.sx k off len cap n)) (hh:Bnd s len hi h) (hl:Bnd s 0 lo a) (h1:a≤h) (h2:h≤cap) (h3:a<cap):
  CU P ⟨dst,.slice t x lo hi none,ty,pos,af,gd⟩ s (.one (.sx k (off+a) (h-a) (cap-a) n)):=fun W0 μ sz w ρ hρ=>by
 have e1:=hρ x (by simp [Op.operands])
 rw [hx] at e1
 obtain ⟨hp,hlc,hmu,hk⟩:=e1
 have rh: ∀v,hi=some v→(Instr.sliceBound (ρ v) cap .sliceAcap).run P w= .ok h w:=fun v hv=>by
  subst hv
  exact IN hh (hρ v (by simp [Op.operands])) (by omega)
 have rl: ∀v,lo=some v→(Instr.sliceBound (ρ v) h .sliceB).run P w= .ok a w:=fun v hv=>by
  subst hv
  exact IN hl (hρ v (by simp [Op.operands])) h1
 have rb:(Instr.sliceBounds true len cap (lo.map ρ) (hi.map ρ) none).run P w= .ok (a,h,cap) w:=by
  unfold Instr.sliceBounds
  cases hi with
  | none=>
    cases hh
    cases lo with
    | none=>cases hl;rfl
    | some v=>
      have:=rl v rfl
      simp [this]
  | some u=>
    cases lo with
    | none=>cases hl;simp [rh u rfl]
    | some v=>simp [rh u rfl,rl v rfl]
 have hc0: ¬cap=a:=by omega
 refine ⟨.slice (some ⟨(μ k).1,(off+a)*n,none⟩) (h-a) (cap-a),?_,rfl,by omega,?_,hk⟩
 ·simp [execOp,Instr.sliceAt,Instr.slice,run_underlying S.hu w,hp,rb,S.tsz.size w,hc0,Addr.add_mid,Nat.add_mul]
 ·rw [show off+a+(cap-a)=off+cap by omega];exact hmu
theorem PI {t e:TypeId} {x:Operand} {lo hi:Option Operand} {agg:Bool} {n bytes:Nat} {zv:Value} [S:Sle P t e agg n bytes zv] {k off len cap a h:Nat} (h1:a≤h) (h2:h≤cap) (h3:a<cap) (hlo:Bnd σ.s 0 lo a) (hhi:Bnd σ.s len hi h) (hg:gOk ops σ.s gd:=by first|exact trivial|exact rfl) (hd:dB X.n dst=true:=by exact rfl) (hx:evC σ.s x= .one (.sx k off len cap n):=by exact rfl)
  (hl:Ab P X ops l (σ.app dst ⟨.one (.sx k (off+a) (h-a) (cap-a) n),[],[],[]⟩) (fun es σ'=>K (⟨.one (.sx k (off+a) (h-a) (cap-a) n),[],[],[]⟩::es) σ')):Ab P X ops (⟨dst,.slice t x lo hi none,ty,pos,af,gd⟩::l) σ K:=
 BM (o:=⟨dst,.slice t x lo hi none,ty,pos,af,gd⟩) hg hd (OQ (S:=S) hx hhi hlo h1 h2 h3) hl
theorem Ll (w:World) (t tx ty e:TypeId) (i:TypeInfo) (ht:P.underlying t=some (.slice e)) (hi:P.info? e=some i) (b off dLen dCap:Nat) (a:Addr) (sLen sCap n:Nat) (hn:n=min sLen dLen) (news:List Value) (hnl:news.length=n*i.size) (hr: ∀j u,news[j]?=some u→w.cell? (a.add j)=some u) (hone: ∀u∈news,u.oneCell'=true)
  (hc: ∀j,j<news.length→(w.cell? ⟨b,off+j,none⟩).isSome=true) (hf: ∀j,j<news.length→w.frozen? ⟨b,off+j,none⟩=false):
  (Builtin.copy_ #[t,tx] ty #[.slice (some ⟨b,off,none⟩) dLen dCap,.slice (some a) sLen sCap]).run P w= .ok (goInt n) (w.setCells b off news):=by
 have hst:=run_storeCells_cells (P:=P) b off news 0 w (by simpa using hc) (by simpa using hf) hone
 simp only [Nat.add_zero] at hst
 have hm:Nat.min sLen dLen=n:=hn.symm
 have hfc:=run_firstCells_some (P:=P) (w:=w) i.size n a sLen sCap news hnl hr
 simp [Builtin.copy_,run_underlying ht,sizeOf,typeInfo,hi,Builtin.lenOf,hm,hfc,hst]
theorem Oh {t tx e:TypeId} {x y:Operand} {agg:Bool} {n bytes:Nat} {zv:Value} [S:Sle P t e agg n bytes zv] {k off len cap k2 off2 m cap2 q:Nat} {os:List C} (hd: ∀t,dst=some t→t<X.n)
  (hx:evC s x= .one (.sx k off len cap n)) (hy:evC s y= .one (.sx k2 off2 m cap2 n)) (hq:q=min m len) (hp:0<q) (hol:os.length=q*n) (hz:off*n+q*n≤z k) (hz2:off2*n+q*n≤z k2):
  Sim P X ⟨dst,.call ⟨.builtin .copy,#[x,y],#[t,tx]⟩,ty,pos,af,gd⟩ s z ⟨.one (.v (.int .i64 q)),[(k2,off2*n,os)],[(k,off*n,os)],[]⟩:=by
 refine Sim.of0 fun W=>?_
 replace hd: ∀t,dst=some t→t<(X.at W).n:=hd
 generalize X.at W=X at hd⊢
 intro σ hs hsz hrd _ a w hc K Q hK
 obtain ⟨μ,hc⟩:=hc
 have hn:=S.pos
 have hpn:=Nat.mul_pos hp hn
 obtain ⟨inf,hi,hzr,hsize,hbye⟩:=S.info
 have h1:=hc.ev x
 replace h1:=B6 (o:=⟨dst,.call ⟨.builtin .copy,#[x,y],#[t,tx]⟩,ty,pos,af,gd⟩) hs (by simp [Op.operands,Call.operands]) h1
 rw [hx] at h1
 obtain ⟨e1,hlc,hmu,hk⟩:=h1
 have h2:=hc.ev y
 replace h2:=B6 (o:=⟨dst,.call ⟨.builtin .copy,#[x,y],#[t,tx]⟩,ty,pos,af,gd⟩) hs (by simp [Op.operands,Call.operands]) h2
 rw [hy] at h2
 obtain ⟨e2,hlc2,hmu2,hk2⟩:=h2
 have hzk:σ.sz k=z k:=by rcases hsz k (by omega) with h|h;exact absurd h hk;exact h
 have hzk2:σ.sz k2=z k2:=by rcases hsz k2 (by omega) with h|h;exact absurd h hk2;exact h
 obtain ⟨vs,hvl,hr,_,hv⟩:=hc.slice (k:=k2) (off:=off2*n) (n:=q*n) hk2 (by omega)
 have hm: ∀(i:Nat) c,os[i]?=some c→σ.m k2 (off2*n+i)=c:=fun i c hi=>hrd (k2,off2*n,os) (by simp) i c hi
 have hall:BX (cc X.W0 μ σ.sz w) vs os:=⟨by omega,fun i v c hvi hci=>by rw [←hm i c hci];exact (hv i v hvi).1⟩
 have hnl: ∀c∈os,nl c:=fun c hcm=>by
  obtain ⟨i,hi1,hi2⟩:=List.getElem_of_mem hcm
  have hi3:i<vs.length:=by omega
  have h3:=(hv i _ (Yk hi3)).2
  rwa [hm i c (by rw [Yk hi1,hi2])] at h3
 have hone: ∀u∈vs,u.oneCell'=true:=fun u hu=>by
  obtain ⟨i,hi1,hi2⟩:=List.getElem_of_mem hu
  have h3:=hv i _ (Yk hi1)
  rw [hi2] at h3
  exact (h3.1.noL h3.2).2
 obtain ⟨_,_,_,hth,_⟩:=hc.slice (k:=k) (off:=off*n) (n:=q*n) hk (by omega)
 have hrun:=Ll (P:=P) w t tx ty e inf S.hu hi (μ k).1 (off*n) len cap ⟨(μ k2).1,off2*n,none⟩ m cap2 q hq vs (by rw [hsize];exact hvl) (fun j u hj=>by rw [Addr.add_mid];exact hr j u hj) hone (fun j hj=>(hth j (by omega)).1) (fun j hj=>(hth j (by omega)).2)
 have hrun2:(execOp a.eval ⟨dst,.call ⟨.builtin .copy,#[x,y],#[t,tx]⟩,ty,pos,af,gd⟩).run P w= .ok (.value (goInt q)) (w.setCells (μ k).1 (off*n) vs):=by
  simp [execOp,resolve,invoke,builtin,e1,e2,hrun]
 unfold Oper.wp
 rw [hrun2]
 refine hK _ _ ⟨μ,?_⟩
 exact BT (hc.store (off:=off*n) hk hall hnl) (d:=dst) hd (v:=goInt q) (av:= .one (.v (.int .i64 q))) rfl
theorem Sf {t tx e:TypeId} {x y:Operand} {agg:Bool} {n bytes:Nat} {zv:Value} [S:Sle P t e agg n bytes zv] {k off len cap k2 off2 m cap2 q:Nat} {os:List C} (hq:q=min m len) (hp:0<q) (hol:os.length=q*n) (hz:off*n+q*n≤σ.sz k) (hz2:off2*n+q*n≤σ.sz k2) (hm: ∀(i:Nat) c,os[i]?=some c→σ.m k2 (off2*n+i)=c)
  (hg:gOk ops σ.s gd:=by first|exact trivial|exact rfl) (hd:dB X.n dst=true:=by exact rfl) (hx:evC σ.s x= .one (.sx k off len cap n):=by exact rfl) (hy:evC σ.s y= .one (.sx k2 off2 m cap2 n):=by exact rfl)
  (hl:Ab P X ops l (σ.app dst ⟨.one (.v (.int .i64 q)),[(k2,off2*n,os)],[(k,off*n,os)],[]⟩) (fun es σ'=>K (⟨.one (.v (.int .i64 q)),[(k2,off2*n,os)],[(k,off*n,os)],[]⟩::es) σ')):Ab P X ops (⟨dst,.call ⟨.builtin .copy,#[x,y],#[t,tx]⟩,ty,pos,af,gd⟩::l) σ K:=
 .of (fun _ _ hl=>Run.step hg (Oh (S:=S) (Cw hd) hx hy hq hp hol hz hz2) (fun p hp=>by rw [List.mem_singleton.1 hp];exact hm) BS hl) hl
theorem Oi {t tx e:TypeId} {x y:Operand} {agg:Bool} {n bytes:Nat} {zv:Value} [S:Sle P t e agg n bytes zv] {k off len cap m:Nat} {ds:List D} (hd: ∀t,dst=some t→t<X.n) (hux: ∃e,P.underlying tx=some (.slice e))
  (hx:evC s x= .one (.sx k off len cap n)) (hy:evC s y= .one (.ls n m ds)) (hml:m≤len) (hp:0<m) (hz:off*n+m*n≤z k):
  Sim P X ⟨dst,.call ⟨.builtin .copy,#[x,y],#[t,tx]⟩,ty,pos,af,gd⟩ s z ⟨.one (.v (.int .i64 m)),[],[(k,off*n,ds.map toC)],[]⟩:=by
 refine Sim.of0 fun W=>?_
 replace hd: ∀t,dst=some t→t<(X.at W).n:=hd
 generalize X.at W=X at hd⊢
 intro σ hs hsz _ _ a w hc K Q hK
 obtain ⟨μ,hc⟩:=hc
 have hn:=S.pos
 have hpn:=Nat.mul_pos hp hn
 obtain ⟨inf,hi,hzr,hsize,hbye⟩:=S.info
 obtain ⟨ex,hux⟩:=hux
 have h1:=hc.ev x
 replace h1:=B6 (o:=⟨dst,.call ⟨.builtin .copy,#[x,y],#[t,tx]⟩,ty,pos,af,gd⟩) hs (by simp [Op.operands,Call.operands]) h1
 rw [hx] at h1
 obtain ⟨e1,hlc,hmu,hk⟩:=h1
 have h2:=hc.ev y
 replace h2:=B6 (o:=⟨dst,.call ⟨.builtin .copy,#[x,y],#[t,tx]⟩,ty,pos,af,gd⟩) hs (by simp [Op.operands,Call.operands]) h2
 rw [hy] at h2
 replace h2:cc X.W0 μ σ.sz w (a.eval y) (.ls n m ds):=h2
 obtain ⟨vn,s2,a2,n2,hln⟩:=FS (P:=P) hc hux hn h2 (Srcs.ls (σ:=σ))
 have hnl: ∀c∈ds.map toC,nl c:=fun c hcm=>by
  obtain ⟨i,hi1,hi2⟩:=List.getElem_of_mem hcm
  have hi3:i<vn.length:=by rw [a2.1];exact hi1
  have h3:=a2.2 i _ _ (Yk hi3) (Yk hi1)
  rw [hi2] at h3
  obtain ⟨d,_,rfl⟩:=List.mem_map.1 hcm
  exact Ul (FM.1 h3) (n2 _ (List.getElem_mem hi3))
 have hzk:σ.sz k=z k:=by rcases hsz k (by omega) with h|h;exact absurd h hk;exact h
 have hvn:vn.length=m*n:=a2.1.trans hln
 obtain ⟨_,_,_,hth,_⟩:=hc.slice (k:=k) (off:=off*n) (n:=m*n) hk (by omega)
 have hrun:=GR (P:=P) w t tx ty e inf S.hu hi (μ k).1 (off*n) len cap (a.eval y) m vn (by rw [hsize];exact s2) hml (fun j hj=>(hth j (by omega)).1) (fun j hj=>(hth j (by omega)).2)
 have hrun2:(execOp a.eval ⟨dst,.call ⟨.builtin .copy,#[x,y],#[t,tx]⟩,ty,pos,af,gd⟩).run P w= .ok (.value (goInt m)) (w.setCells (μ k).1 (off*n) vn):=by
  simp [execOp,resolve,invoke,builtin,e1,hrun]
 unfold Oper.wp
 rw [hrun2]
 refine hK _ _ ⟨μ,?_⟩
 exact BT (hc.store (off:=off*n) hk a2 hnl) (d:=dst) hd (v:=goInt m) (av:= .one (.v (.int .i64 m))) rfl
theorem Sg {α:Type} {f:α→List D} {la:List α} {t tx e:TypeId} {x y:Operand} {agg:Bool} {n bytes:Nat} {zv:Value} [S:Sle P t e agg n bytes zv] {k off len cap:Nat} (hux: ∃e,P.underlying tx=some (.slice e)) (hml:la.length≤len) (hp:0<la.length) (hz:off*n+la.length*n≤σ.sz k)
  (hg:gOk ops σ.s gd:=by first|exact trivial|exact rfl) (hd:dB X.n dst=true:=by exact rfl) (hx:evC σ.s x= .one (.sx k off len cap n):=by exact rfl) (hy:evC σ.s y= .one (lsG n f la):=by exact rfl)
  (hl:Ab P X ops l (σ.app dst ⟨.one (.v (.int .i64 la.length)),[],[(k,off*n,AA f la)],[]⟩) (fun es σ'=>K (⟨.one (.v (.int .i64 la.length)),[],[(k,off*n,AA f la)],[]⟩::es) σ')):Ab P X ops (⟨dst,.call ⟨.builtin .copy,#[x,y],#[t,tx]⟩,ty,pos,af,gd⟩::l) σ K:=
 .of (fun _ _ hl=>Run.step hg (Oi (S:=S) (Cw hd) hux hx hy hml hp hz) (fun p hp=>by cases hp) BS hl) hl
end
set_option maxRecDepth 20000
set_option maxHeartbeats 1000000
instance fun_mul64:Fun Tryz.prog 149:=⟨by kernel_rfl⟩
instance fun_bitsMul:Fun Tryz.prog 117:=⟨by kernel_rfl⟩
theorem V0 {p:Nat} (hp:p<18446744073709551616):Ctr Tryz.prog Amb 149 [.one (.v (.int .u64 1)),.one (.v (.int .u64 (p:Nat)))] (.tup [.one (.v (.int .u64 0)),.one (.v (.int .u64 (p:Nat)))]):=
 NS fun W0 μ sz w u v ht hu hv=>by
  have hu:u= .int .u64 1:=hu
  have hv:v= .int .u64 (p:Nat):=hv
  subst hu
  subst hv
  refine (Tryz.bits_Mul64 1 p (by decide) hp w).mono ?_
  rintro e w' ⟨rfl,rfl⟩
  rw [Nat.one_mul,Nat.div_eq_of_lt hp,Nat.mod_eq_of_lt hp]
  refine ⟨_,rfl,Below.refl _ _,[.int .u64 0,.int .u64 (p:Nat)],rfl,rfl,fun i a b ha hb=>?_⟩
  match i with
  | 0=>simp at ha hb;subst ha;subst hb;rfl
  | 1=>simp at ha hb;subst ha;subst hb;rfl
  | i+2=>simp at ha
theorem RX {p:Nat} (hp:p<1000000):Ctr Tryz.prog Amb 117 [.one (.v (.int .u64 1)),.one (.v (.int .u64 (p:Nat)))] (.tup [.one (.v (.int .u64 0)),.one (.v (.int .u64 (p:Nat)))]):=by
 have M1:=V0 (p:=p) (by omega)
 refine A0 Tryz.func117 rfl rfl rfl rfl rfl rfl ?_
 intro W0 base D μ0 hA hD
 repeat (first
  | refine Al ?_|refine Ae ?_|refine Ac rfl ?_|refine Ad rfl ?_
  | ((first|refine Am (by kernel_rfl) ?_|refine Av (by kernel_rfl) (by kernel_rfl) (by kernel_rfl) ?_)
     repeat (first
      | refine Ap (hl:=?_)
      | refine Af (hl:=?_)
      | refine At (hl:=?_)
      | refine Dt (hl:=?_)
      | refine Ao hA (hc:=M1) (hl:=?_))
     apply Ab.nil;try refine And.intro (by kernel_rfl) ?_)
  | refine Ai ?_|refine Aj ?_)
 refine BH (And.intro (Or.inr rfl) ?_)
 exact Qm
theorem UF {α:Type} {f:α→List D} {n:Nat} (hf:Elm n f) {σ:St} {ks:List Nat} {k:Nat} {l la:List α} {i:Nat} (hi:i+la.length≤l.length) (hz:σ.sz k=(AA f l).length:=by exact rfl) (hm:σ.m k=laid (GT (AA f l)) (i*n) (AA f la):=by exact rfl):EH σ ks (k,AA f (l.take i++la++l.drop (i+la.length))):=by
 have hll:(l.take i++la++l.drop (i+la.length)).length=l.length:=by
  rw [List.length_append,List.length_append,List.length_take,List.length_drop];omega
 refine ⟨⟨by show σ.sz k=_;rw [hz,BJ hf,BJ hf,hll],fun o c hc=>⟨?_,D3 hf _ c (List.mem_of_getElem? hc)⟩⟩,D4 ks _⟩
 show Aa (σ.m k o) c
 rw [hm]
 have e1:AA f (l.take i++la++l.drop (i+la.length))=AA f (l.take i)++AA f la++AA f (l.drop (i+la.length)):=by simp [AA]
 have ap: ∀u v:List α,AA f u++AA f v=AA f (u++v):=fun u v=>by simp [AA]
 have e2:AA f l=AA f (l.take i)++AA f (l.drop i):=by rw [ap,List.take_append_drop]
 have e3:AA f (l.drop i)=AA f ((l.drop i).take la.length)++AA f (l.drop (i+la.length)):=by
  have:=List.take_append_drop la.length (l.drop i)
  rw [List.drop_drop] at this
  rw [ap,this]
 have l1:(AA f (l.take i)).length=i*n:=by rw [BJ hf,List.length_take,Nat.min_eq_left (by omega)]
 have l2:(AA f la).length=la.length*n:=BJ hf la
 have l3:(AA f ((l.drop i).take la.length)).length=la.length*n:=by rw [BJ hf,List.length_take,List.length_drop,Nat.min_eq_left (by omega)]
 have hc:(AA f (l.take i++la++l.drop (i+la.length)))[o]?=some c:=hc
 rw [e1,List.append_assoc] at hc
 by_cases h1:o<i*n
 ·rw [List.getElem?_append_left (by omega)] at hc
  rw [DP (by omega)]
  refine Aa.of_eq (DI ?_)
  rw [e2,List.getElem?_append_left (by omega)]
  exact hc
 ·rw [List.getElem?_append_right (by omega),l1] at hc
  by_cases h2:o-i*n<la.length*n
  ·rw [List.getElem?_append_left (by omega)] at hc
   obtain ⟨q,rfl⟩: ∃q,o=i*n+q:=⟨o-i*n,by omega⟩
   rw [Nat.add_sub_cancel_left] at hc
   rw [Dp hc]
   exact Aa.of_eq rfl
  ·rw [List.getElem?_append_right (by omega),l2] at hc
   rw [DP (by omega)]
   refine Aa.of_eq (DI ?_)
   rw [e2,List.getElem?_append_right (by omega),l1,e3,List.getElem?_append_right (by omega),l3]
   exact hc
theorem SQ {j p:Nat} {t:Rat} (hp:1≤p∧p≤1000):Ctr Tryz.prog Amb 89 [.one (AS j [t]),Ak (p:Nat)] (.one (AS j (Yj p t))):=by
 have b0:=Cc (k:= .i64) (decide_eq_false (show ¬((p:Nat):Int)<0 by omega))
 have w1:(IntKind.u64).wrap ((p:Nat):Int)=((p:Nat):Int):=by simp [IntKind.wrap,IntKind.bits,IntKind.signed];omega
 have w2:(IntKind.i64).wrap ((p:Nat):Int)=((p:Nat):Int):=IntWalk.i64_in _ (by omega)
 have M1:=RX (p:=p) (by omega)
 have g1:=Iv (k:= .u64) (decide_eq_false (show ¬((p:Nat):Int)>9223372036854775807 by omega))
 obtain ⟨R,hR⟩: ∃R,R=Yj p t:=⟨_,rfl⟩
 have hRl:R.length=p:=by rw [hR,List.length_replicate]
 rw [←hR]
 refine A0 Tryz.func89 rfl rfl rfl rfl rfl rfl ?_
 intro W0 base D μ0 hA hD
 repeat (first
  | refine Al ?_|refine Ae ?_|refine Ac rfl ?_|refine Ad rfl ?_
  | ((first|refine Am (by kernel_rfl) ?_|refine Av (by kernel_rfl) (by kernel_rfl) (by kernel_rfl) ?_)
     repeat (first
      | refine UV (cap:=p) (by omega) (by omega) (by omega) (hl:=?_)
      | refine AW (hl:=?_)
      | refine Ap (hl:=?_)
      | refine Af (hl:=?_)
      | refine At (hl:=?_)
      | refine AL (hl:=?_)
      | refine AJ (hl:=?_)
      | refine AK (hl:=?_)
      | refine Dt (hl:=?_)
      | refine AN (hl:=?_)
      | refine AM (hl:=?_)
      | refine AO (hl:=?_)
      | refine AE (hl:=?_)
      | refine Ao hA (hc:=M1) (hl:=?_))
     apply Ab.nil;try refine And.intro (by kernel_rfl) ?_)
  | refine Ai ?_|refine Aj ?_)
 refine Ch (ss:= [(0,.one (AS j [t])),(7,.one (.sx 30 0 p p 3))]) (bs:= [(30,AA (nmD j) (Yj p 0))]) ?_ ?_
 ·exact BI
 have hz0:0*3+([t]:List Rat).length*3≤(AA (nmD j) (Yj p (0:Rat))).length:=by rw [BJ (n:=3) inferInstance,List.length_replicate];simp;omega
 repeat (first
  | refine Al ?_|refine Ae ?_|refine Ac rfl ?_|refine Ad rfl ?_
  | ((first|refine Am (by kernel_rfl) ?_|refine Av (by kernel_rfl) (by kernel_rfl) (by kernel_rfl) ?_)
     repeat (first
      | refine Sg (k:=30) (off:=0) (f:=nmD j) (la:= [t]) ⟨_,rfl⟩ hp.1 Nat.one_pos hz0 (hl:=?_)
      | refine AW (hl:=?_)
      | refine Ap (hl:=?_)
      | refine Af (hl:=?_)
      | refine At (hl:=?_)
      | refine AL (hl:=?_)
      | refine AJ (hl:=?_)
      | refine AK (hl:=?_)
      | refine Dt (hl:=?_)
      | refine AN (hl:=?_)
      | refine AM (hl:=?_)
      | refine AO (hl:=?_)
      | refine AE (hl:=?_))
     apply Ab.nil;try refine And.intro (by kernel_rfl) ?_)
  | refine Ai ?_|refine Aj ?_)
 refine CE (fun m σ=> ∃n:Nat,m=p-n∧1≤n∧n≤p∧Wk ⟨W0,base,D,48,[],μ0⟩ σ [(7,.one (.sx 30 0 p p 3)),(8,Ak (n:Nat))] [(30,AA (nmD j) (Yj n t++Yj (p-n) 0))]) (n:=p-1) ⟨1,rfl,Yi _,hp.1,?_⟩ ?_
 ·have e:Yj 1 t++Yj (p-1) 0=(Yj p (0:Rat)).set 0 t:=by
   obtain ⟨q,rfl⟩: ∃q,p=q+1:=⟨p-1,by omega⟩
   rfl
  rw [e]
  refine Es ?_ ?_ rfl
  ·exact List.forall_mem_cons.2 ⟨Ent.of_eq rfl,List.forall_mem_cons.2 ⟨Ent.of_eq rfl,AU⟩⟩
  ·exact List.forall_mem_cons.2 ⟨G7 inferInstance (i:=0) (by rw [List.length_replicate];omega) (cs:=AA (nmD j) [t]) (EntL.of_eq rfl),AU⟩
 clear b0 w1 w2 M1 g1 hz0
 intro m σ hI
 obtain ⟨n,hm,hn1,hn2,hw⟩:=hI
 refine Ch hw ?_
 clear hw
 by_cases hi:n<p
 ·have bi:=Cc (k:= .i64) (decide_eq_true (show ((n:Nat):Int)<((p:Nat):Int) by omega))
  obtain ⟨q,hq⟩: ∃q,q=min (n-0) (p-n):=⟨_,rfl⟩
  have hq1:0<q:=by omega
  have hin:=A5 (k:= .i64) (show (IntKind.i64).wrap (((n:Nat):Int)+((q:Nat):Int))=((n+q:Nat):Int) by rw [show ((n:Nat):Int)+((q:Nat):Int)=((n+q:Nat):Int) by omega];exact IntWalk.i64_in _ (by omega))
  obtain ⟨L,hL⟩: ∃L,L=Yj n t++Yj (p-n) 0:=⟨_,rfl⟩
  have hLl:L.length=p:=by rw [hL,List.length_append,List.length_replicate,List.length_replicate];omega
  have hol:(AA (nmD j) (Yj q t)).length=q*3:=by rw [BJ (n:=3) inferInstance,List.length_replicate]
  have hbl:(AA (nmD j) L).length=p*3:=by rw [BJ (n:=3) inferInstance,hLl]
  have hz1:(0+n)*3+q*3≤(AA (nmD j) L).length:=by rw [hbl];omega
  have hz2:(0+0)*3+q*3≤(AA (nmD j) L).length:=by rw [hbl];omega
  have hrd: ∀(i:Nat) c,(AA (nmD j) (Yj q t))[i]?=some c→GT (AA (nmD j) L) ((0+0)*3+i)=c:=fun i c hc=>by
   rw [show (0+0)*3+i=i by omega]
   refine DI ?_
   have e:L=Yj q t++(Yj (n-q) t++Yj (p-n) 0):=by
    rw [hL,←List.append_assoc,List.replicate_append_replicate,show q+(n-q)=n by omega]
   have e2:AA (nmD j) L=AA (nmD j) (Yj q t)++AA (nmD j) (Yj (n-q) t++Yj (p-n) 0):=by rw [e];simp [AA]
   rw [e2,List.getElem?_append_left (List.getElem?_eq_some_iff.1 hc).1]
   exact hc
  have hnext:L.take (0+n)++Yj q t++L.drop (0+n+(Yj q t).length)=Yj (n+q) t++Yj (p-(n+q)) 0:=by
   rw [hL,Nat.zero_add,List.length_replicate,List.take_append_of_le_length (by simp),List.drop_append,List.take_of_length_le (by simp),List.drop_of_length_le (by simp),List.length_replicate,Nat.add_sub_cancel_left,List.drop_replicate,List.replicate_append_replicate,List.nil_append,show p-n-q=p-(n+q) by omega]
  rw [←hL]
  repeat (first
   | refine Al ?_|refine Ae ?_|refine Ac rfl ?_|refine Ad rfl ?_
   | ((first|refine Am (by kernel_rfl) ?_|refine Av (by kernel_rfl) (by kernel_rfl) (by kernel_rfl) ?_)
      repeat (first
       | refine AW (hl:=?_)
       | refine Ap (hl:=?_)
       | refine Af (hl:=?_)
       | refine At (hl:=?_)
       | refine AL (hl:=?_)
       | refine AJ (hl:=?_)
       | refine AK (hl:=?_)
       | refine Dt (hl:=?_)
       | refine AN (hl:=?_)
       | refine AM (hl:=?_)
       | refine AO (hl:=?_)
       | refine AE (hl:=?_)
       | refine PI (k:=30) (off:=0) (len:=p) (cap:=p) (a:=n) (h:=p) (by omega) (by omega) (by omega) (.some rfl rfl) .none (hl:=?_)
       | refine PI (k:=30) (off:=0) (len:=p) (cap:=p) (a:=0) (h:=n) (by omega) (by omega) (by omega) .none (.some rfl rfl) (hl:=?_)
       | refine Sf (k:=30) (k2:=30) (off:=0+n) (off2:=0+0) (q:=q) (os:=AA (nmD j) (Yj q t)) hq hq1 hol hz1 hz2 hrd (hl:=?_))
      apply Ab.nil;try refine And.intro (by kernel_rfl) ?_)
   | refine Ai ?_|refine Aj ?_)
  refine ⟨p-(n+q),by omega,n+q,rfl,by omega,by omega,?_⟩
  rw [←hnext]
  refine Es ?_ ?_ rfl
  ·exact List.forall_mem_cons.2 ⟨Ent.of_eq rfl,List.forall_mem_cons.2 ⟨Ent.of_eq rfl,AU⟩⟩
  ·exact List.forall_mem_cons.2 ⟨UF inferInstance (by rw [List.length_replicate,hLl];omega),AU⟩
 ·have bi:=Cc (k:= .i64) (decide_eq_false (show ¬((n:Nat):Int)<((p:Nat):Int) by omega))
  obtain rfl:n=p:=by omega
  have e:Yj n t++Yj (n-n) 0=R:=by rw [Nat.sub_self,hR];simp
  rw [e]
  repeat (first
   | refine Al ?_|refine Ae ?_|refine Ac rfl ?_|refine Ad rfl ?_
   | ((first|refine Am (by kernel_rfl) ?_|refine Av (by kernel_rfl) (by kernel_rfl) (by kernel_rfl) ?_)
      repeat (first
       | refine AW (hl:=?_)
       | refine Ap (hl:=?_)
       | refine Af (hl:=?_)
       | refine At (hl:=?_)
       | refine AL (hl:=?_)
       | refine AJ (hl:=?_)
       | refine AK (hl:=?_)
       | refine Dt (hl:=?_)
       | refine AN (hl:=?_)
       | refine AM (hl:=?_)
       | refine AO (hl:=?_)
       | refine AE (hl:=?_))
      apply Ab.nil;try refine And.intro (by kernel_rfl) ?_)
   | refine Ai ?_|refine Aj ?_)
  refine Ch (ss:= [(4,.one (.gl 30 R.length 3))]) (bs:= [(30,AA (nmD j) R)]) ?_ ?_
  ·rw [hRl]
   refine Es ?_ ?_ rfl
   ·exact List.forall_mem_cons.2 ⟨Ent.one' rfl (Aa.sxGl (by omega)),AU⟩
   ·exact List.forall_mem_cons.2 ⟨DR inferInstance,AU⟩
  refine CX 30 hD (ss:= [(4,.one (AS j R))]) (bs:= []) ?_ ?_
  ·exact LN
  refine BH (And.intro (Or.inr rfl) ?_)
  exact C8
section
variable {P:Program} {X:Ctx} {ops l:List Oper} {σ:St} {K:List Eff→St→Prop} {s:Nat→AV} {z:Nat→Nat}
variable {dst:Option Tmp} {ty:TypeId} {pos:String} {af:Array Edge} {gd:Option (Nat×Bool)}
theorem SM {t tx e:TypeId} {x y:Operand} {agg:Bool} {n bytes:Nat} {zv:Value} [S:Sle P t e agg n bytes zv] {k m id:Nat} {ds:List D} (hd: ∀t,dst=some t→t<X.n) (hux: ∃e,P.underlying tx=some (.slice e))
  (hx:evC s x= .one (.gl k 0 n)) (hy:evC s y= .one (.ls n m ds)) (hp:0<m) (hby:m*bytes≤140737488355328) (h63:m≤9223372036854775807):
  Sim P X ⟨dst,.call ⟨.builtin .append,#[x,y],#[t,tx]⟩,ty,pos,af,gd⟩ s z ⟨.one (.gl id m n),[],[],[(id,ds.map toC)]⟩:=by
 refine Sim.of0 fun W=>?_
 replace hd: ∀t,dst=some t→t<(X.at W).n:=hd
 generalize X.at W=X at hd⊢
 intro σ hs hsz hrd hal a w hcn K Q hK
 obtain ⟨μ,hcn⟩:=hcn
 obtain ⟨hid,hne⟩:=hal.1 _ List.mem_cons_self
 have hn:=S.pos
 obtain ⟨inf,hi,hzr,hsize,hbye⟩:=S.info
 obtain ⟨ex,hux⟩:=hux
 have h1:=hcn.ev x
 replace h1:=B6 (o:=⟨dst,.call ⟨.builtin .append,#[x,y],#[t,tx]⟩,ty,pos,af,gd⟩) hs (by simp [Op.operands,Call.operands]) h1
 rw [hx] at h1
 obtain ⟨ao,c1,e1,_,hc0,_⟩:=h1
 obtain rfl:=hc0 rfl
 have h2:=hcn.ev y
 replace h2:=B6 (o:=⟨dst,.call ⟨.builtin .append,#[x,y],#[t,tx]⟩,ty,pos,af,gd⟩) hs (by simp [Op.operands,Call.operands]) h2
 rw [hy] at h2
 replace h2:cc X.W0 μ σ.sz w (a.eval y) (.ls n m ds):=h2
 obtain ⟨vn,s2,a2,n2,hln⟩:=FS (P:=P) hcn hux hn h2 (Srcs.ls (σ:=σ))
 have hnln: ∀c∈ds.map toC,nl c:=fun c hcm=>by
  obtain ⟨i,hi1,hi2⟩:=List.getElem_of_mem hcm
  have hi3:i<vn.length:=by rw [a2.1];exact hi1
  have h3:=a2.2 i _ _ (Yk hi3) (Yk hi1)
  rw [hi2] at h3
  obtain ⟨d,_,rfl⟩:=List.mem_map.1 hcm
  exact Ul (FM.1 h3) (n2 _ (List.getElem_mem hi3))
 have hold:(Builtin.firstCells inf.size 0 (.slice ao 0 0)).run P w.drew= .ok ([]:List Value).toArray w.drew:=Iy (n:=inf.size) rfl w.drew
 have hru:=run_append_grow_src (P:=P) w t tx ty e inf zv S.hu hi hzr ao 0 0 [] hold (a.eval y) m vn (by rw [hsize];exact s2) (by omega) (by omega) (growslice_fits (by omega) (by rw [hbye,Nat.zero_add];exact hby))
 simp only [Nat.zero_add,List.nil_append] at hru
 have hrun:(execOp a.eval ⟨dst,.call ⟨.builtin .append,#[x,y],#[t,tx]⟩,ty,pos,af,gd⟩).run P w= .ok (.value (.slice (some ⟨w.heap.size,0,none⟩) m (grownCap w m 0 e))) (w.drew.alloc (.cells (vn.toArray++Builtin.zeroCells zv.cells (grownCap w m 0 e-m)) e)):=by
  simp [execOp,resolve,invoke,builtin,e1,hru]
 unfold Oper.wp
 rw [hrun]
 have hge:=grownCap_ge w m 0 e
 generalize grownCap w m 0 e=gc at hge
 have hkp:Kp w (w.drew.alloc (.cells (vn.toArray++Builtin.zeroCells zv.cells (gc-m)) e)):=((Below.refl _ _).drew).alloc (Yi _) _
 have hall:BX (cc X.W0 μ σ.sz (w.drew.alloc (.cells (vn.toArray++Builtin.zeroCells zv.cells (gc-m)) e))) vn (ds.map toC):=by
  refine a2.map fun v c hc hv=>hv.mono (Kl.of_kp hkp) fun i hi=>⟨rfl,hi⟩
 obtain ⟨r1,r2,r3⟩:=Ks (k:=gc-m) hall n2 S.nl S.size hn
 have hvl2:vn.length=m*n:=a2.1.trans hln
 have hol2:(ds.map toC).length=m*n:=hln
 have hnew:=hcn.new (id:=id) hid (g:=w.heap.size) (e:=e) (cs:=ds.map toC) hkp (Yi _) (heap_alloc_new w.drew _) hne (by rw [r1,hvl2,hol2];omega) r2 r3 hnln
 have hlast:cv X.W0 (upd μ id (w.heap.size,(vn.toArray++Builtin.zeroCells zv.cells (gc-m)).size)) (upd σ.sz id (ds.map toC).length) (w.drew.alloc (.cells (vn.toArray++Builtin.zeroCells zv.cells (gc-m)) e)) (.slice (some ⟨w.heap.size,0,none⟩) m gc) (.one (.gl id m n)):=by
  refine ⟨_,gc,rfl,hge,fun h=>by omega,fun _=>⟨by rw [AQ],?_,?_⟩⟩
  ·rw [AQ,r1,hvl2,←Nat.add_mul]
   have:m+(gc-m)=gc:=by omega
   rw [this];exact Yi _
  ·rw [AQ]
   intro h0
   exact hne (List.eq_nil_of_length_eq_zero h0)
 exact hK _ _ ⟨_,BT hnew (d:=dst) hd hlast⟩
theorem WI {α:Type} {f:α→List D} {la:List α} {d:Nat} {t tx e:TypeId} {x y:Operand} {agg:Bool} {n bytes:Nat} {zv:Value} [S:Sle P t e agg n bytes zv] {k:Nat} (hux: ∃e,P.underlying tx=some (.slice e)) (hp:0<la.length) (hby:la.length*bytes≤140737488355328) (h63:la.length≤9223372036854775807) (hEl:Elm n f)
  (hg:gOk ops σ.s gd:=by first|exact trivial|exact rfl) (hd:dB X.n (some d)=true:=by exact rfl) (hx:evC σ.s x= .one (.gl k 0 n):=by exact rfl) (hy:evC σ.s y= .one (lsG n f la):=by exact rfl) (hf:Nat.beq (σ.sz d) 0=true:=by exact rfl)
  (hl:Ab P X ops l (σ.app (some d) ⟨.one (.gl d la.length n),[],[],[(d,AA f la)]⟩) (fun es σ'=>K (⟨.one (.gl d la.length n),[],[],[(d,AA f la)]⟩::es) σ')):Ab P X ops (⟨some d,.call ⟨.builtin .append,#[x,y],#[t,tx]⟩,ty,pos,af,gd⟩::l) σ K:=
 .of (fun _ _ hl=>Run.step hg (SM (S:=S) (Cw hd) hux hx hy hp hby h63) (fun p hp=>by cases hp) (En (Nat.eq_of_beq_eq_true hf) fun h0=>by
  have h1:(AA f la).length=0:=congrArg List.length h0
  have h2:(AA f la).length=la.length*n:=BJ hEl la
  have:=Nat.mul_pos hp S.pos
  omega) hl) hl
theorem Q6 {t tx e:TypeId} {x y:Operand} {agg:Bool} {n bytes:Nat} {zv:Value} [S:Sle P t e agg n bytes zv] {k id:Nat} (hd: ∀t,dst=some t→t<X.n) (hux: ∃e,P.underlying tx=some (.slice e))
  (hx:evC s x= .one (.gl k 0 n)) (hy:evC s y= .one (.ls n 0 [])):
  Sim P X ⟨dst,.call ⟨.builtin .append,#[x,y],#[t,tx]⟩,ty,pos,af,gd⟩ s z ⟨.one (.gl id 0 n),[],[],[]⟩:=by
 refine Sim.of0 fun W=>?_
 replace hd: ∀t,dst=some t→t<(X.at W).n:=hd
 generalize X.at W=X at hd⊢
 intro σ hs hsz hrd hal a w hcn K Q hK
 obtain ⟨μ,hcn⟩:=hcn
 have hn:=S.pos
 obtain ⟨inf,hi,hzr,hsize,hbye⟩:=S.info
 obtain ⟨ex,hux⟩:=hux
 have h1:=hcn.ev x
 replace h1:=B6 (o:=⟨dst,.call ⟨.builtin .append,#[x,y],#[t,tx]⟩,ty,pos,af,gd⟩) hs (by simp [Op.operands,Call.operands]) h1
 rw [hx] at h1
 obtain ⟨ao,c1,e1,_,hc0,_⟩:=h1
 obtain rfl:=hc0 rfl
 have h2:=hcn.ev y
 replace h2:=B6 (o:=⟨dst,.call ⟨.builtin .append,#[x,y],#[t,tx]⟩,ty,pos,af,gd⟩) hs (by simp [Op.operands,Call.operands]) h2
 rw [hy] at h2
 replace h2:cc X.W0 μ σ.sz w (a.eval y) (.ls n 0 []):=h2
 obtain ⟨vn,s2,a2,n2,hln⟩:=FS (P:=P) hcn hux hn h2 (Srcs.ls (σ:=σ))
 have hvn0:vn= []:=List.eq_nil_of_length_eq_zero (by rw [a2.1];rfl)
 subst hvn0
 have hlo':=s2.len w
 have hkind:=s2.kind
 have hcl:=s2.cells
 have hrun:(execOp a.eval ⟨dst,.call ⟨.builtin .append,#[x,y],#[t,tx]⟩,ty,pos,af,gd⟩).run P w= .ok (.value (.slice ao 0 0)) w:=by
  rw [←hsize] at hcl
  rcases hkind with ⟨e',hk'⟩|hk'
  ·cases ao with
   | none=>simp [execOp,resolve,invoke,builtin,e1,Builtin.append_,run_underlying S.hu,run_underlying hk',sizeOf,typeInfo,hi,hlo',hcl]
   | some b=>simp [execOp,resolve,invoke,builtin,e1,Builtin.append_,run_underlying S.hu,run_underlying hk',sizeOf,typeInfo,hi,hlo',hcl,storeCells]
  ·cases ao with
   | none=>simp [execOp,resolve,invoke,builtin,e1,Builtin.append_,run_underlying S.hu,run_underlying hk',sizeOf,typeInfo,hi,hlo',hcl]
   | some b=>simp [execOp,resolve,invoke,builtin,e1,Builtin.append_,run_underlying S.hu,run_underlying hk',sizeOf,typeInfo,hi,hlo',hcl,storeCells]
 unfold Oper.wp
 rw [hrun]
 refine hK _ _ ⟨μ,?_⟩
 exact BT hcn (d:=dst) hd (v:= .slice ao 0 0) (av:= .one (.gl id 0 n)) ⟨ao,0,rfl,Yi _,fun _=>rfl,fun h=>absurd rfl h⟩
theorem UY {d:Nat} {t tx e:TypeId} {x y:Operand} {agg:Bool} {n bytes:Nat} {zv:Value} [S:Sle P t e agg n bytes zv] {k:Nat} (hux: ∃e,P.underlying tx=some (.slice e))
  (hg:gOk ops σ.s gd:=by first|exact trivial|exact rfl) (hd:dB X.n (some d)=true:=by exact rfl) (hx:evC σ.s x= .one (.gl k 0 n):=by exact rfl) (hy:evC σ.s y= .one (.ls n 0 []):=by exact rfl)
  (hl:Ab P X ops l (σ.app (some d) ⟨.one (.gl d 0 n),[],[],[]⟩) (fun es σ'=>K (⟨.one (.gl d 0 n),[],[],[]⟩::es) σ')):Ab P X ops (⟨some d,.call ⟨.builtin .append,#[x,y],#[t,tx]⟩,ty,pos,af,gd⟩::l) σ K:=
 .of (fun _ _ hl=>Run.step hg (Q6 (S:=S) (Cw hd) hux hx hy) (fun p hp=>by cases hp) BS hl) hl
end
def qC:C→Bool
 | .v _=>true
 | .q _ _ _=>true
 | _=>false
def qA0:AV→Bool
 | .one c=>qC c
 | .agg cs=>cs.all qC
 | _=>false
def qA:AV→Bool
 | .tup l=>l.all qA0
 | a=>qA0 a
theorem Pu {W0 W1:World} {μ:Nat→Nat×Nat} {sz:Nat→Nat} {w:World} {x:Value} {c:C} (hq:qC c=true) (h:cc W0 μ sz w x c):cc W1 μ sz w x c:=by
 cases c with
 | v y=>exact h
 | q r j i=>
   match i with
   | 0=>exact h
   | 1=>exact h
   | _+2=>exact h
 | _=>cases hq
theorem Qs {W0 W1:World} {μ:Nat→Nat×Nat} {sz:Nat→Nat} {w:World} {x:Value} {a:AV} (hq:qA0 a=true) (h:cv0 W0 μ sz w x a):cv0 W1 μ sz w x a:=by
 cases a with
 | one c=>exact Pu (c:=c) hq h
 | agg cs=>obtain ⟨l,rfl,hl⟩:=h;exact ⟨l,rfl,hl.map fun v c hc hv=>Pu (List.all_eq_true.1 hq c hc) hv⟩
 | tup l=>cases hq
 | junk=>cases hq
theorem Xl {W0 W1:World} {μ:Nat→Nat×Nat} {sz:Nat→Nat} {w:World} {x:Value} {a:AV} (hq:qA a=true) (h:cv W0 μ sz w x a):cv W1 μ sz w x a:=by
 cases a with
 | one c=>exact Pu (c:=c) hq h
 | agg cs=>exact Qs (a:= .agg cs) hq h
 | tup l=>obtain ⟨vs,rfl,hl⟩:=h;exact ⟨vs,rfl,hl.map fun v a ha hv=>Qs (List.all_eq_true.1 hq a ha) hv⟩
 | junk=>cases hq
theorem Ctr.thaw {P:Program} {A:World→Prop} [MonoA A] {f:FuncId} {args args':List AV} {i k j:Nat} {l:List Rat} {R:AV} (h:Ctr P A f args R) (hi:args[i]?=some (.one (AS j l))) (ha:args'=args.set i (.one (.gl k l.length 3))) (hq:qA R=true):Cd P A f args' [(k,AA (nmD j) l,AA (nmD j) l)] R:=by
 subst ha
 intro W0 w μ sz vs hA hF hb hinj hv
 obtain ⟨b1,b2,b3,hat⟩:=hb _ (List.mem_singleton.2 rfl)
 obtain ⟨a,e,c1,c2,c3,c4,c5,c6⟩:=hat
 simp only at b1 b2 b3 c1 c2 c3 c5 c6
 have hE:=F4 (.cells a e (0,0)) b3
 have hF1:Fr (frz W0 (μ k).1 (.cells a e (0,0))) w:=fun g hg=>by
  rcases DA hg with rfl|h1
  ·rw [GB,c1]
  ·by_cases hgk:g=(μ k).1
   ·subst hgk;exact absurd h1 b3
   ·rw [hF g h1,LO _ _ hgk (Ha h1)]
 have hil:i<args.length:=(List.getElem?_eq_some_iff.1 hi).1
 have hv1:BX (cv (frz W0 (μ k).1 (.cells a e (0,0))) μ sz w) vs args:=by
  refine ⟨by rw [hv.1,List.length_set],fun q v b hvq hbq=>?_⟩
  by_cases hqi:q=i
  ·subst hqi
   rw [hi] at hbq
   cases hbq
   have h1:=hv.2 q v (.one (.gl k l.length 3)) hvq (by rw [List.getElem?_set_self hil])
   obtain ⟨ao,cp,rfl,h2,_,h4⟩:=h1
   unfold cv cv0 cc dd
   refine ⟨EZ (f:=nmD j) (es:=3) (fun _=>rfl) l,ao,cp,rfl,h2,fun hne=>?_⟩
   have hl:l.length≠0:=fun h0=>hne (by rw [List.eq_nil_of_length_eq_zero h0];rfl)
   obtain ⟨rfl,_,h6⟩:=h4 hl
   refine ⟨(μ k).1,0,rfl,H5 fun o d ho=>?_⟩
   have hic:(AA (nmD j) l)[o]?=some (toC d):=by rw [List.getElem?_map,ho];rfl
   have hia:o<a.size:=by have:=(List.getElem?_eq_some_iff.1 hic).1;omega
   have h7:=c5 o _ _ (Array.getElem?_eq_getElem hia) hic
   rw [Nat.zero_add]
   refine ⟨a[o],?_,c4 o _ (Array.getElem?_eq_getElem hia),?_⟩
   ·rw [World.cell?_of_block (w:=w) (by rw [GB,c1]),cell_of_row w _ _ a e (0,0) c1]
    exact Array.getElem?_eq_getElem hia
   ·exact FM.1 (h7.mono (.refl _) (fun i hi=>⟨rfl,hi⟩) hE)
  ·have h1:=hv.2 q v b hvq (by rw [List.getElem?_set_ne (Ne.symm hqi)];exact hbq)
   exact cv.mono h1 (.refl _) (fun i hi=>⟨rfl,hi⟩) hE
 refine (h _ w μ sz vs (MonoA.up hA hE) hF1 (fun p hp=>by cases hp) (fun p hp=>by cases hp) hv1).mono ?_
 rintro e' w' ⟨r,W',rfl,k1,k2,k3,_⟩
 have kp:Kp w w':=⟨k1.os,k1.tape,k1.output,k1.size,fun g hg=>k1.block g hg (by rintro ⟨p,hp,_⟩;cases hp)⟩
 refine ⟨r,W0,rfl,Kd.of_kp kp,Gr.of_kp hF kp,Xl hq k3,fun p hp=>?_⟩
 rw [List.mem_singleton.1 hp]
 exact ⟨a,e,by rw [kp.block _ (Array.getElem?_eq_some_iff.1 c1).1];exact c1,c2,c3,c4,fun o x c hx hc=>(c5 o x c hx hc).mono (Kl.of_kp kp) (fun i hi=>⟨rfl,hi⟩),c6⟩
section
variable {P:Program} {X:Ctx} {ops l:List Oper} {σ:St} {K:List Eff→St→Prop}
variable {dst:Option Tmp} {ty:TypeId} {pos:String} {af:Array Edge} {gd:Option (Nat×Bool)}
theorem GJ {A:World→Prop} [MonoA A] (hA:A X.W0) {c:Call} {f:FuncId} [hF:Fun P f] {us:List AV} {k len n q:Nat} {b:List C} {R:AV} (hc:Cd P A f us [(k,b,b)] R) (hlen:0<len∧0<b.length) (hg:gOk ops σ.s gd:=by first|exact trivial|exact rfl) (hd:dB X.n dst=true:=by exact rfl) (hcl:BA σ.s c.callee=some (f,[]):=by exact rfl)
  (has:Ents (c.args.toList.map (evC σ.s)) us:=by exact Ents.of_eq rfl) (hm1:(c.args.toList.map (evC σ.s))[q]?=some (.one (.gl k len n)):=by exact rfl) (hz:σ.sz k=b.length:=by exact rfl) (hm:J1 (σ.m k) b:=by first|exact DN|exact Dh)
  (hl:Ab P X ops l (σ.app dst ⟨R,[(k,0,b)],[],[]⟩) (fun es σ'=>K (⟨R,[(k,0,b)],[],[]⟩::es) σ')):Ab P X ops (⟨dst,.call c,ty,pos,af,gd⟩::l) σ K:=by
 have hc':Cd P A f (c.args.toList.map (evC σ.s)++ []) (([(k,b)]:List (Nat×List C)).map (fun p=>(p.1,p.2,p.2))++ []) R:=by
  rw [List.append_nil];exact Cd.weak hc has Ent.same
 have hment:(c.args.toList.map (evC σ.s)++ []).any (DU k)=true:=by
  rw [List.append_nil]
  refine List.any_eq_true.2 ⟨_,List.mem_of_getElem? hm1,?_⟩
  show (Nat.beq k k&&Nat.blt 0 len)=true
  have h0:Nat.blt 0 len=true:=by simpa using hlen.1
  rw [h0,Nat.beq_refl]
  rfl
 have hS:=D7 (X:=X) (dst:=dst) (ty:=ty) (pos:=pos) (af:=af) (gd:=gd) (s:=σ.s) (z:=σ.sz) hA (c:=c) (caps:= []) (ro:= [(k,b)]) (rw:= []) (ns:= []) (ord:= [(k,b)]) (R:=R) (Cw hd) hcl rfl hc'.g (by
  simp only [List.all_cons,List.all_nil,Bool.and_true,Em,Bool.and_eq_true,Nat.beq_eq,Nat.blt_eq]
  exact ⟨⟨hz,hlen.2⟩,trivial⟩) rfl (by simp) (by
  show ((List.any _ (DU k) || _)&&true)=true
  rw [hment]
  rfl) (fun p hp=>hp) (fun p hp=>by cases hp) (fun q hq=> .inl hq)
 refine .of (fun _ _ hl=>Run.step hg hS (fun p hp i c' hi=>?_) BS hl) hl
 have hp':p=(k,0,b):=by simpa using hp
 subst hp'
 show σ.m k (0+i)=c'
 rw [Nat.zero_add]
 exact hm i c' hi
end
theorem UE {σ:St} {ks:List Nat} {k:Nat} {os cs:List C} (he:EntL os cs) (hn: ∀c∈cs,nl c) (hi:cs.all (inC ks)=true) (hz:σ.sz k=os.length:=by exact rfl) (hm:J1 (σ.m k) os:=by first|exact DN|exact Dh):EH σ ks (k,cs):=by
 refine ⟨⟨hz.trans he.len,fun o d hd=>⟨?_,hn d (List.mem_of_getElem? hd)⟩⟩,hi⟩
 have hq:o<os.length:=by rw [he.len];exact (List.getElem?_eq_some_iff.1 hd).1
 show Aa (σ.m k o) d
 rw [hm o _ (Yk hq)]
 exact he.get o _ d (Yk hq) hd
theorem Ky: ∀ {l:List C},EntL l l
 | []=> .nil
 | c::l=> .cons (Aa.of_eq rfl) Ky
end Go.Proofs.YtkmalkcgkcpcmaaGreatDoor
