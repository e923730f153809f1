/-
  Several texts in one: Zda, Zdc.
-/
import Derived.Test.YtkmalkcgkcpcmaaGreatDoorHy
import Derived.Test.YtkmalkcgkcpcmaaGreatDoorId
namespace Go.Proofs.YtkmalkcgkcpcmaaGreatDoor
open Go.RowKit
set_option linter.unusedVariables false
set_option linter.unusedSimpArgs false
section
variable {P:Program} {X:Ctx} {ops l:List Oper} {σ:St} {K:List Eff→St→Prop} {s:Nat→AV} {z:Nat→Nat}
variable {dst:Option Tmp} {ty:TypeId} {pos:String} {af:Array Edge} {gd:Option (Nat×Bool)}
theorem sim_buildX {t e:TypeId} {parts:Array (Nat×Operand)} {agg:Bool} {n bytes:Nat} {zv:Value} [S:Sle P t e agg n bytes zv] {len id:Nat} {ps:List (Nat×AV)} {cs:List C} (hd: ∀t,dst=some t→t<X.n) (hps:parts.toList.map (fun p=>(p.1,evC s p.2))=ps)
  (hnl:(ps.all fun p=>(acells p.2).all nlB)=true) (hf:fillC (fun i=>some (i*n,n)) (zerosC len zv.cells.toList) ps=some cs) (hnl2:cs.all nlB=true) (hb:Nat.ble (len*n) 16777216=true) (hp:Nat.blt 0 len=true):
  Sim P X ⟨dst,.buildSlice t len parts,ty,pos,af,gd⟩ s z ⟨.one (.sx id 0 len len n),[],[],[(id,cs)]⟩:=by
 refine Sim.of0 fun W=>?_
 replace hd: ∀t,dst=some t→t<(X.at W).n:=hd
 generalize X.at W=X at hd⊢
 intro σ hs hsz _ hal a w hcn K Q hK
 obtain ⟨μ,hcn⟩:=hcn
 obtain ⟨hid,hne⟩:=hal.1 _ List.mem_cons_self
 obtain ⟨inf,hi,hz,hsize,hby⟩:=S.info
 have hb:=Nat.le_of_ble_eq_true hb
 have hp:0<len:=by simpa using hp
 have hzs:=S.size
 have hpos:=S.pos
 obtain ⟨ol,rfl⟩: ∃ol:List (Nat×Operand),parts=ol.toArray:=⟨parts.toList,by simp⟩
 have hρ': ∀p∈ol,cv X.W0 μ σ.sz w (a.eval p.2) (evC s p.2):=fun p hpm=>by
  have h1:=hcn.ev p.2
  exact evC_le (o:=⟨dst,.buildSlice t len ol.toArray,ty,pos,af,gd⟩) hs (by simp [Op.operands];exact ⟨p.1,hpm⟩) h1
 simp only at hps
 subst hps
 have hz0:All2 (cc X.W0 μ σ.sz w) (madeCells zv.cells (len*n)).toList (zerosC len zv.cells.toList):=by
  have:=zerosC_all2 (W0:=X.W0) (μ:=μ) (sz:=σ.sz) (w:=w) (z:=zv.cells) (by omega) len
  rw [hzs] at this
  exact this
 obtain ⟨a',h1,h2⟩:=fill_cc (W0:=X.W0) (μ:=μ) (sz:=σ.sz) (w:=w) (vs:=ol.map fun p=>(p.1,a.eval p.2)) (by simp) (fun i p q hp hq=>by
  simp only [List.getElem?_map,Option.map_eq_some_iff] at hp hq
  obtain ⟨x,hx,rfl⟩:=hp
  obtain ⟨y,hy,rfl⟩:=hq
  rw [hx] at hy
  cases hy
  refine ⟨rfl,hρ' x (List.mem_of_getElem? hx),fun c hc=>nlB_ok ?_⟩
  have:=List.all_eq_true.1 hnl (x.1,evC s x.2) (List.mem_map.2 ⟨x,List.mem_of_getElem? hx,rfl⟩)
  exact List.all_eq_true.1 this c hc) hz0 hf
 have hr:=run_buildSlice (P:=P) w t e len ((ol.map fun p=>(p.1,a.eval p.2)).toArray) a' inf zv S.hu hi hz (by rw [hsize];omega) (by rw [hsize];have:=Nat.mul_pos hp hpos;omega) (by
  rw [hsize]
  simpa [madeCells] using h1)
 have hrun:(execOp a.eval ⟨dst,.buildSlice t len ol.toArray,ty,pos,af,gd⟩).run P w= .ok (.value (.slice (some ⟨w.heap.size,0,none⟩) len len)) (w.alloc (.cells a' e)):=by
  simp only [execOp]
  rw [show (ol.toArray.map fun x=>match x with | (i,x)=>(i,a.eval x))=(ol.map fun p=>(p.1,a.eval p.2)).toArray by simp]
  simp [hr]
 unfold Oper.wp
 rw [hrun]
 have hkp:Kp w (w.alloc (.cells a' e)):=(Below.refl _ _).alloc (Nat.le_refl _) _
 have hnl': ∀c∈cs,nl c:=fun c hc=>nlB_ok (List.all_eq_true.1 hnl2 c hc)
 have hsz':a'.size=cs.length:=by have:=h2.1;simpa using this
 have hlen:cs.length=len*n:=by
  have key: ∀(ps:List (Nat×AV)) (c0 c1:List C),fillC (fun i=>some (i*n,n)) c0 ps=some c1→c1.length=c0.length:=by
   intro ps
   induction ps with
   | nil=>intro c0 c1 h;simp [fillC] at h;rw [h]
   | cons p ps ih=>
     intro c0 c1 h
     unfold fillC at h
     simp only at h
     split at h
     ·have layl: ∀(l:List C) (c:List C) (o:Nat),(layC c o l).length=c.length:=by
       intro l
       induction l with
       | nil=>intro c o;rfl
       | cons x l ih=>intro c o;show (layC (c.set o x) (o+1) l).length=_;rw [ih];simp
      rw [ih _ _ h,layl]
     ·cases h
  rw [key _ _ _ hf,zerosC_len];simp [hzs]
 have hnew:=hcn.new (id:=id) hid (w':=w.alloc (.cells a' e)) (g:=w.heap.size) (vs:=a') (e:=e) (cs:=cs) hkp (Nat.le_refl _) (heap_alloc_new w _) hne (by omega)
  (fun o x hx=>by
   have ho:o<cs.length:=by have:=(Array.getElem?_eq_some_iff.1 hx).1;omega
   exact (h2.2 o x _ (by simpa using hx) (List.getElem?_eq_getElem ho)).noL (hnl' _ (List.getElem_mem ho))) (fun o x c hx hc=>(h2.2 o x c (by simpa using hx) hc).mono (Kl.of_kp hkp) fun i hi=>⟨rfl,hi⟩) hnl'
 refine hK _ _ ⟨upd μ id (w.heap.size,a'.size),?_⟩
 refine cn_put hnew (d:=dst) hd (v:= .slice (some ⟨w.heap.size,0,none⟩) len len) (av:= .one (.sx id 0 len len n)) ⟨by rw [upd_self,Nat.zero_mul],Nat.le_refl _,by rw [upd_self,hsz',hlen,Nat.zero_add];exact Nat.le_refl _,?_⟩
 show upd σ.sz id _ id≠0
 rw [upd_self]
 intro h0
 exact hne (List.eq_nil_of_length_eq_zero h0)
theorem v_buildX {d:Nat} {t e:TypeId} {parts:Array (Nat×Operand)} {agg:Bool} {n bytes:Nat} {zv:Value} [S:Sle P t e agg n bytes zv] {len:Nat} {ps:List (Nat×AV)} {cs:List C} (hg:gOk ops σ.s gd:=by first | exact trivial | exact rfl) (hd:dB X.n (some d)=true:=by exact rfl) (hx:parts.toList.map (fun p=>(p.1,evC σ.s p.2))=ps:=by exact rfl) (hy:(ps.all fun p=>(acells p.2).all nlB)=true:=by exact rfl) (hc:fillC (fun i=>some (i*n,n)) (zerosC len zv.cells.toList) ps=some cs:=by exact rfl)
  (hf:(Nat.beq (σ.sz d) 0&&!cs.isEmpty&&cs.all nlB&&Nat.ble (len*n) 16777216&&Nat.blt 0 len)=true:=by exact rfl)
  (hl:RunK P X ops l (σ.app (some d) ⟨.one (.sx d 0 len len n),[],[],[(d,cs)]⟩) (fun es σ'=>K (⟨.one (.sx d 0 len len n),[],[],[(d,cs)]⟩::es) σ')):RunK P X ops (⟨some d,.buildSlice t len parts,ty,pos,af,gd⟩::l) σ K:=by
 simp only [Bool.and_eq_true,Bool.not_eq_true'] at hf
 exact .of (fun _ _ hl=>Run.step hg (sim_buildX (dB_ok hd) hx hy hc hf.1.1.2 hf.1.2 hf.2) (fun p hp=>by cases hp) (alOk_one (by simpa using hf.1.1.1.1) fun h0=>by rw [h0] at hf;cases hf.1.1.1.2) hl) hl
theorem sim_appX {t tx e:TypeId} {x y:Operand} {agg:Bool} {n bytes:Nat} {zv:Value} [S:Sle P t e agg n bytes zv] {k off len cap m id:Nat} {os:List C} {ds:List D} (hd: ∀t,dst=some t→t<X.n) (hux: ∃e,P.underlying tx=some (.slice e))
  (hx:evC s x= .one (.sx k off len cap n)) (hy:evC s y= .one (.ls n m ds)) (hol:os.length=len*n) (hz:off*n+len*n≤z k) (hg:cap<len+m) (hby:(len+m)*bytes≤140737488355328) (h63:len+m≤9223372036854775807) (hb:0<off*n+len*n):
  Sim P X ⟨dst,.call ⟨.builtin .append,#[x,y],#[t,tx]⟩,ty,pos,af,gd⟩ s z ⟨.one (.gl id (len+m) n),[(k,off*n,os)],[],[(id,os++ds.map toC)]⟩:=by
 refine Sim.of0 fun W=>?_
 replace hd: ∀t,dst=some t→t<(X.at W).n:=hd
 generalize X.at W=X at hd⊢
 intro σ hs hsz hrd hal a w hcn K Q hK
 obtain ⟨μ,hcn⟩:=hcn
 obtain ⟨hid,hne⟩:=hal.1 _ List.mem_cons_self
 have hn:=S.pos
 obtain ⟨inf,hi,hzr,hsize,hbye⟩:=S.info
 obtain ⟨ex,hux⟩:=hux
 have h1:=hcn.ev x
 replace h1:=evC_le (o:=⟨dst,.call ⟨.builtin .append,#[x,y],#[t,tx]⟩,ty,pos,af,gd⟩) hs (by simp [Op.operands,Call.operands]) h1
 rw [hx] at h1
 obtain ⟨e1,hlc,hmu,hk⟩:=h1
 have h2:=hcn.ev y
 replace h2:=evC_le (o:=⟨dst,.call ⟨.builtin .append,#[x,y],#[t,tx]⟩,ty,pos,af,gd⟩) hs (by simp [Op.operands,Call.operands]) h2
 rw [hy] at h2
 replace h2:cc X.W0 μ σ.sz w (a.eval y) (.ls n m ds):=h2
 obtain ⟨vn,s2,a2,n2,hln⟩:=src_get (P:=P) hcn hux hn h2 (Srcs.ls (σ:=σ))
 have hzk:σ.sz k=z k:=by rcases hsz k (by omega) with h | h;exact absurd h hk;exact h
 obtain ⟨vo,hvl,hr,_,hv⟩:=hcn.slice (k:=k) (off:=off*n) (n:=len*n) hk (by omega)
 have hm: ∀(i:Nat) c,os[i]?=some c→σ.m k (off*n+i)=c:=fun i c hi=>hrd (k,off*n,os) (by simp) i c hi
 have a1:All2 (cc X.W0 μ σ.sz w) vo os:=⟨by omega,fun i v c hvi hci=>by rw [←hm i c hci];exact (hv i v hvi).1⟩
 have n1: ∀u∈vo,noL u:=fun u hu=>by
  obtain ⟨i,hi1,hi2⟩:=List.getElem_of_mem hu
  have h3:=hv i _ (List.getElem?_eq_getElem hi1)
  rw [hi2] at h3
  exact h3.1.noL h3.2
 have hnlo: ∀c∈os,nl c:=fun c hcm=>by
  obtain ⟨i,hi1,hi2⟩:=List.getElem_of_mem hcm
  have hi3:i<vo.length:=by omega
  have h3:=(hv i _ (List.getElem?_eq_getElem hi3)).2
  rwa [hm i c (by rw [List.getElem?_eq_getElem hi1,hi2])] at h3
 have hnln: ∀c∈ds.map toC,nl c:=fun c hcm=>by
  obtain ⟨i,hi1,hi2⟩:=List.getElem_of_mem hcm
  have hi3:i<vn.length:=by rw [a2.1];exact hi1
  have h3:=a2.2 i _ _ (List.getElem?_eq_getElem hi3) (List.getElem?_eq_getElem hi1)
  rw [hi2] at h3
  obtain ⟨d,_,rfl⟩:=List.mem_map.1 hcm
  exact dd_nl (cc_toC.1 h3) (n2 _ (List.getElem_mem hi3))
 have hold:(Builtin.firstCells inf.size len (.slice (some ⟨(μ k).1,off*n,none⟩) len cap)).run P w.drew= .ok vo.toArray w.drew:=by
  refine run_firstCells_some (P:=P) (w:=w.drew) inf.size len _ len cap vo (by rw [hsize];exact hvl) fun j u hj=>?_
  rw [Addr.add_mid]
  exact hr j u hj
 have hru:=run_append_grow_src (P:=P) w t tx ty e inf zv S.hu hi hzr (some ⟨(μ k).1,off*n,none⟩) len cap vo hold (a.eval y) m vn (by rw [hsize];exact s2) hg (by omega) (growslice_fits hg (by rw [hbye];exact hby))
 have hrun:(execOp a.eval ⟨dst,.call ⟨.builtin .append,#[x,y],#[t,tx]⟩,ty,pos,af,gd⟩).run P w= .ok (.value (.slice (some ⟨w.heap.size,0,none⟩) (len+m) (grownCap w (len+m) cap e))) (w.drew.alloc (.cells ((vo++vn).toArray++Builtin.zeroCells zv.cells (grownCap w (len+m) cap e-(len+m))) e)):=by
  simp [execOp,resolve,invoke,builtin,e1,hru]
 unfold Oper.wp
 rw [hrun]
 have hge:=grownCap_ge w (len+m) cap e
 generalize grownCap w (len+m) cap e=gc at hge
 have hkp:Kp w (w.drew.alloc (.cells ((vo++vn).toArray++Builtin.zeroCells zv.cells (gc-(len+m))) e)):=((Below.refl _ _).drew).alloc (Nat.le_refl _) _
 have hall:All2 (cc X.W0 μ σ.sz (w.drew.alloc (.cells ((vo++vn).toArray++Builtin.zeroCells zv.cells (gc-(len+m))) e))) (vo++vn) (os++ds.map toC):=by
  refine (all2_append a1 a2).map fun v c hc hv=>hv.mono (Kl.of_kp hkp) fun i hi=>⟨rfl,hi⟩
 obtain ⟨r1,r2,r3⟩:=grown_row (k:=gc-(len+m)) hall (fun u hu=>by
  rcases List.mem_append.1 hu with h | h
  ·exact n1 u h
  ·exact n2 u h) S.nl S.size hn
 have hvl2:(vo++vn).length=(len+m)*n:=by rw [(all2_append a1 a2).1,List.length_append,hol,hln,Nat.add_mul]
 have hol2:(os++ds.map toC).length=(len+m)*n:=by rw [List.length_append,hol,hln,Nat.add_mul]
 have hnew:=hcn.new (id:=id) hid (g:=w.heap.size) (e:=e) (cs:=os++ds.map toC) hkp (Nat.le_refl _) (heap_alloc_new w.drew _) hne (by rw [r1,hvl2,hol2];omega) r2 r3 (fun c hc=>by
  rcases List.mem_append.1 hc with h | h
  ·exact hnlo c h
  ·exact hnln c h)
 have hlast:cv X.W0 (upd μ id (w.heap.size,((vo++vn).toArray++Builtin.zeroCells zv.cells (gc-(len+m))).size)) (upd σ.sz id (os++ds.map toC).length) (w.drew.alloc (.cells ((vo++vn).toArray++Builtin.zeroCells zv.cells (gc-(len+m))) e)) (.slice (some ⟨w.heap.size,0,none⟩) (len+m) gc) (.one (.gl id (len+m) n)):=by
  refine ⟨_,gc,rfl,hge,fun h=>by omega,fun _=>⟨by rw [upd_self],?_,?_⟩⟩
  ·rw [upd_self,r1,hvl2,←Nat.add_mul]
   have:len+m+(gc-(len+m))=gc:=by omega
   rw [this];exact Nat.le_refl _
  ·rw [upd_self]
   intro h0
   exact hne (List.eq_nil_of_length_eq_zero h0)
 exact hK _ _ ⟨_,cn_put hnew (d:=dst) hd hlast⟩
theorem v_appX {α:Type} {f:α→List D} {la:List α} {d:Nat} {t tx e:TypeId} {x y:Operand} {agg:Bool} {n bytes:Nat} {zv:Value} [S:Sle P t e agg n bytes zv] {k off len cap:Nat} {os:List C} (hux: ∃e,P.underlying tx=some (.slice e)) (hol:os.length=len*n) (hc:cap<len+la.length∧(len+la.length)*bytes≤140737488355328∧len+la.length≤9223372036854775807∧0<off*n+len*n) (hz:off*n+len*n≤σ.sz k) (hm: ∀(i:Nat) c,os[i]?=some c→σ.m k (off*n+i)=c) (hne:os≠ [])
  (hg:gOk ops σ.s gd:=by first | exact trivial | exact rfl) (hd:dB X.n (some d)=true:=by exact rfl) (hx:evC σ.s x= .one (.sx k off len cap n):=by exact rfl) (hy:evC σ.s y= .one (lsG n f la):=by exact rfl) (hf:Nat.beq (σ.sz d) 0=true:=by exact rfl)
  (hl:RunK P X ops l (σ.app (some d) ⟨.one (.gl d (len+la.length) n),[(k,off*n,os)],[],[(d,os++blkL f la)]⟩) (fun es σ'=>K (⟨.one (.gl d (len+la.length) n),[(k,off*n,os)],[],[(d,os++blkL f la)]⟩::es) σ')):RunK P X ops (⟨some d,.call ⟨.builtin .append,#[x,y],#[t,tx]⟩,ty,pos,af,gd⟩::l) σ K:=
 .of (fun _ _ hl=>Run.step hg (sim_appX (S:=S) (dB_ok hd) hux hx hy hol hz hc.1 hc.2.1 hc.2.2.1 hc.2.2.2) (fun p hp=>by rw [List.mem_singleton.1 hp];exact hm) (alOk_one (Nat.eq_of_beq_eq_true hf) fun h0=>hne (List.append_eq_nil_iff.1 h0).1) hl) hl
end
end Go.Proofs.YtkmalkcgkcpcmaaGreatDoor
namespace Go.Proofs.YtkmalkcgkcpcmaaGreatDoor
open Go.RowKit
set_option linter.unusedVariables false
set_option linter.unusedSimpArgs false
section
variable {P:Program} {X:Ctx} {ops l:List Oper} {σ:St} {K:List Eff→St→Prop} {s:Nat→AV} {z:Nat→Nat}
variable {dst:Option Tmp} {ty:TypeId} {pos:String} {af:Array Edge} {gd:Option (Nat×Bool)}
theorem sim_app0 {t tx e:TypeId} {x y:Operand} {agg:Bool} {n bytes:Nat} {zv:Value} [S:Sle P t e agg n bytes zv] {k m id:Nat} {ds:List D} (hd: ∀t,dst=some t→t<X.n) (hux: ∃e,P.underlying tx=some (.slice e))
  (hx:evC s x= .one (.gl k 0 n)) (hy:evC s y= .one (.ls n m ds)) (hp:0<m) (hby:m*bytes≤140737488355328) (h63:m≤9223372036854775807):
  Sim P X ⟨dst,.call ⟨.builtin .append,#[x,y],#[t,tx]⟩,ty,pos,af,gd⟩ s z ⟨.one (.gl id m n),[],[],[(id,ds.map toC)]⟩:=by
 refine Sim.of0 fun W=>?_
 replace hd: ∀t,dst=some t→t<(X.at W).n:=hd
 generalize X.at W=X at hd⊢
 intro σ hs hsz hrd hal a w hcn K Q hK
 obtain ⟨μ,hcn⟩:=hcn
 obtain ⟨hid,hne⟩:=hal.1 _ List.mem_cons_self
 have hn:=S.pos
 obtain ⟨inf,hi,hzr,hsize,hbye⟩:=S.info
 obtain ⟨ex,hux⟩:=hux
 have h1:=hcn.ev x
 replace h1:=evC_le (o:=⟨dst,.call ⟨.builtin .append,#[x,y],#[t,tx]⟩,ty,pos,af,gd⟩) hs (by simp [Op.operands,Call.operands]) h1
 rw [hx] at h1
 obtain ⟨ao,c1,e1,_,hc0,_⟩:=h1
 obtain rfl:=hc0 rfl
 have h2:=hcn.ev y
 replace h2:=evC_le (o:=⟨dst,.call ⟨.builtin .append,#[x,y],#[t,tx]⟩,ty,pos,af,gd⟩) hs (by simp [Op.operands,Call.operands]) h2
 rw [hy] at h2
 replace h2:cc X.W0 μ σ.sz w (a.eval y) (.ls n m ds):=h2
 obtain ⟨vn,s2,a2,n2,hln⟩:=src_get (P:=P) hcn hux hn h2 (Srcs.ls (σ:=σ))
 have hnln: ∀c∈ds.map toC,nl c:=fun c hcm=>by
  obtain ⟨i,hi1,hi2⟩:=List.getElem_of_mem hcm
  have hi3:i<vn.length:=by rw [a2.1];exact hi1
  have h3:=a2.2 i _ _ (List.getElem?_eq_getElem hi3) (List.getElem?_eq_getElem hi1)
  rw [hi2] at h3
  obtain ⟨d,_,rfl⟩:=List.mem_map.1 hcm
  exact dd_nl (cc_toC.1 h3) (n2 _ (List.getElem_mem hi3))
 have hold:(Builtin.firstCells inf.size 0 (.slice ao 0 0)).run P w.drew= .ok ([]:List Value).toArray w.drew:=firstCells_zero (n:=inf.size) rfl w.drew
 have hru:=run_append_grow_src (P:=P) w t tx ty e inf zv S.hu hi hzr ao 0 0 [] hold (a.eval y) m vn (by rw [hsize];exact s2) (by omega) (by omega) (growslice_fits (by omega) (by rw [hbye,Nat.zero_add];exact hby))
 simp only [Nat.zero_add,List.nil_append] at hru
 have hrun:(execOp a.eval ⟨dst,.call ⟨.builtin .append,#[x,y],#[t,tx]⟩,ty,pos,af,gd⟩).run P w= .ok (.value (.slice (some ⟨w.heap.size,0,none⟩) m (grownCap w m 0 e))) (w.drew.alloc (.cells (vn.toArray++Builtin.zeroCells zv.cells (grownCap w m 0 e-m)) e)):=by
  simp [execOp,resolve,invoke,builtin,e1,hru]
 unfold Oper.wp
 rw [hrun]
 have hge:=grownCap_ge w m 0 e
 generalize grownCap w m 0 e=gc at hge
 have hkp:Kp w (w.drew.alloc (.cells (vn.toArray++Builtin.zeroCells zv.cells (gc-m)) e)):=((Below.refl _ _).drew).alloc (Nat.le_refl _) _
 have hall:All2 (cc X.W0 μ σ.sz (w.drew.alloc (.cells (vn.toArray++Builtin.zeroCells zv.cells (gc-m)) e))) vn (ds.map toC):=by
  refine a2.map fun v c hc hv=>hv.mono (Kl.of_kp hkp) fun i hi=>⟨rfl,hi⟩
 obtain ⟨r1,r2,r3⟩:=grown_row (k:=gc-m) hall n2 S.nl S.size hn
 have hvl2:vn.length=m*n:=a2.1.trans hln
 have hol2:(ds.map toC).length=m*n:=hln
 have hnew:=hcn.new (id:=id) hid (g:=w.heap.size) (e:=e) (cs:=ds.map toC) hkp (Nat.le_refl _) (heap_alloc_new w.drew _) hne (by rw [r1,hvl2,hol2];omega) r2 r3 hnln
 have hlast:cv X.W0 (upd μ id (w.heap.size,(vn.toArray++Builtin.zeroCells zv.cells (gc-m)).size)) (upd σ.sz id (ds.map toC).length) (w.drew.alloc (.cells (vn.toArray++Builtin.zeroCells zv.cells (gc-m)) e)) (.slice (some ⟨w.heap.size,0,none⟩) m gc) (.one (.gl id m n)):=by
  refine ⟨_,gc,rfl,hge,fun h=>by omega,fun _=>⟨by rw [upd_self],?_,?_⟩⟩
  ·rw [upd_self,r1,hvl2,←Nat.add_mul]
   have:m+(gc-m)=gc:=by omega
   rw [this];exact Nat.le_refl _
  ·rw [upd_self]
   intro h0
   exact hne (List.eq_nil_of_length_eq_zero h0)
 exact hK _ _ ⟨_,cn_put hnew (d:=dst) hd hlast⟩
theorem v_app0 {α:Type} {f:α→List D} {la:List α} {d:Nat} {t tx e:TypeId} {x y:Operand} {agg:Bool} {n bytes:Nat} {zv:Value} [S:Sle P t e agg n bytes zv] {k:Nat} (hux: ∃e,P.underlying tx=some (.slice e)) (hp:0<la.length) (hby:la.length*bytes≤140737488355328) (h63:la.length≤9223372036854775807) (hEl:Elm n f)
  (hg:gOk ops σ.s gd:=by first | exact trivial | exact rfl) (hd:dB X.n (some d)=true:=by exact rfl) (hx:evC σ.s x= .one (.gl k 0 n):=by exact rfl) (hy:evC σ.s y= .one (lsG n f la):=by exact rfl) (hf:Nat.beq (σ.sz d) 0=true:=by exact rfl)
  (hl:RunK P X ops l (σ.app (some d) ⟨.one (.gl d la.length n),[],[],[(d,blkL f la)]⟩) (fun es σ'=>K (⟨.one (.gl d la.length n),[],[],[(d,blkL f la)]⟩::es) σ')):RunK P X ops (⟨some d,.call ⟨.builtin .append,#[x,y],#[t,tx]⟩,ty,pos,af,gd⟩::l) σ K:=
 .of (fun _ _ hl=>Run.step hg (sim_app0 (S:=S) (dB_ok hd) hux hx hy hp hby h63) (fun p hp=>by cases hp) (alOk_one (Nat.eq_of_beq_eq_true hf) fun h0=>by
  have h1:(blkL f la).length=0:=congrArg List.length h0
  have h2:(blkL f la).length=la.length*n:=blkL_len hEl la
  have:=Nat.mul_pos hp S.pos
  omega) hl) hl
end
section
variable {P:Program} {X:Ctx} {ops l:List Oper} {σ:St} {K:List Eff→St→Prop}
variable {dst:Option Tmp} {ty:TypeId} {pos:String} {af:Array Edge} {gd:Option (Nat×Bool)}
end
theorem blk_more {σ:St} {ks:List Nat} {k:Nat} {os cs:List C} (he:EntL os cs) (hn: ∀c∈cs,nl c) (hi:cs.all (inC ks)=true) (hz:σ.sz k=os.length:=by exact rfl) (hm:RowX (σ.m k) os:=by first | exact rowX_row | exact rowX_laid):BlkOk σ ks (k,cs):=by
 refine ⟨⟨hz.trans he.len,fun o d hd=>⟨?_,hn d (List.mem_of_getElem? hd)⟩⟩,hi⟩
 have hq:o<os.length:=by rw [he.len];exact (List.getElem?_eq_some_iff.1 hd).1
 show EntC (σ.m k o) d
 rw [hm o _ (List.getElem?_eq_getElem hq)]
 exact he.get o _ d (List.getElem?_eq_getElem hq) hd
theorem entL_self: ∀ {l:List C},EntL l l
 | []=> .nil
 | c::l=> .cons (EntC.of_eq rfl) entL_self
end Go.Proofs.YtkmalkcgkcpcmaaGreatDoor
