/-
  Several texts in one: Ed, Ee, Ef.
-/
import Derived.Test.YtfineedhebhpaaaGreatDoorEz
import Derived.Laws.Rows
namespace Go.Proofs.YtfineedhebhpaaaGreatDoor
open List renaming getElem?_eq_getElem→Yv
open Nat renaming le_refl→Yu
open Go.RowKit
set_option linter.unusedVariables false
set_option linter.unusedSimpArgs false
def Yi:Option TypeDesc→Bool
 | some (.struct _)|some (.array _ _)=>true
 | _=>false
def MH (P:Program) (t:TypeId) (agg:Bool) (n:Nat):Bool:=(P.underlying t).isSome&&(Yi (P.underlying t)==agg)&&((P.info? t).map (·.size)==some n)
class Tsz (P:Program) (t:TypeId) (agg:outParam Bool) (n:outParam Nat):Prop where
 ok:MH P t agg n=true
theorem Tsz.isAgg {P:Program} {t:TypeId} {agg:Bool} {n:Nat} (h:Tsz P t agg n) (w:World):(isAgg t).run P w= .ok agg w:=by
 have h:=h.ok
 unfold MH at h
 simp only [Bool.and_eq_true,Option.isSome_iff_exists,beq_iff_eq] at h
 obtain ⟨⟨⟨d,hd⟩,h2⟩,_⟩:=h
 unfold Go.isAgg
 rw [Sem.run_bind,run_underlying hd w,Result.andThen_ok]
 rw [hd] at h2
 subst h2
 cases d<;>rfl
theorem Tsz.size {P:Program} {t:TypeId} {agg:Bool} {n:Nat} (h:Tsz P t agg n) (w:World):(sizeOf t).run P w= .ok n w:=by
 have h:=h.ok
 unfold MH at h
 simp only [Bool.and_eq_true,beq_iff_eq] at h
 cases hi:P.info? t with
 | none=>rw [hi] at h;simp at h
 | some i=>
   rw [hi] at h
   have:i.size=n:=by simpa using h.2
   simp [sizeOf,typeInfo,hi,this]
theorem Tsz.info {P:Program} {t:TypeId} {agg:Bool} {n:Nat} (h:Tsz P t agg n):(P.info? t).map (·.size)=some n:=by
 have h:=h.ok
 unfold MH at h
 simp only [Bool.and_eq_true,beq_iff_eq] at h
 exact h.2
def L1:Value→Bool
 | .int .u32 _=>false
 | x=>x.oneCell'
theorem GA {x:Value} (h:L1 x=true):noL x:=by
 refine ⟨fun n e=>?_,?_⟩
 ·subst e;cases h
 ·unfold L1 at h
  split at h
  ·cases h
  ·exact h
def nlB:C→Bool
 | .v x=>L1 x
 | _=>true
theorem DM {c:C} (h:nlB c=true):nl c:=by
 cases c with
 | v x=>exact GA h
 | _=>trivial
class Zer (P:Program) (t:TypeId) (z:outParam Value):Prop where
 ok:((P.info? t).bind (·.zero))=some z
 nl:(z.cells.toList.all L1)=true
def X7 (P:Program) (t:TypeId) (i off:Nat) (agg:Bool) (n:Nat):Bool:=
 match P.underlying t with
 | some (.struct fs)=>match fs[i]? with
   | some f=>f.offset==off&&MH P f.type agg n&&decide (n≠0)
   | none=>false
 | _=>false
class Fld (P:Program) (t:TypeId) (i:Nat) (off:outParam Nat) (agg:outParam Bool) (n:outParam Nat):Prop where
 ok:X7 P t i off agg n=true
theorem Fld.get {P:Program} {t:TypeId} {i off:Nat} {agg:Bool} {n:Nat} (h:Fld P t i off agg n): ∃fs f,P.underlying t=some (.struct fs)∧fs[i]?=some f∧f.offset=off∧Tsz P f.type agg n∧n≠0:=by
 have h:=h.ok
 unfold X7 at h
 split at h
 ·rename_i fs hu
  split at h
  ·rename_i f hf
   simp only [Bool.and_eq_true,beq_iff_eq,decide_eq_true_eq] at h
   exact ⟨fs,f,hu,hf,h.1.1,⟨h.1.2⟩,h.2⟩
  ·cases h
 ·cases h
def Yf (P:Program) (t:TypeId) (len:Nat) (agg:Bool) (n:Nat):Bool:=
 match P.underlying t with
 | some (.array l e)=>l==len&&MH P e agg n
 | _=>false
class Ary (P:Program) (t:TypeId) (len:outParam Nat) (agg:outParam Bool) (n:outParam Nat):Prop where
 ok:Yf P t len agg n=true
theorem Ary.get {P:Program} {t:TypeId} {len:Nat} {agg:Bool} {n:Nat} (h:Ary P t len agg n): ∃e,P.underlying t=some (.array len e)∧Tsz P e agg n:=by
 have h:=h.ok
 unfold Yf at h
 split at h
 ·rename_i l e hu
  simp only [Bool.and_eq_true,beq_iff_eq] at h
  obtain ⟨rfl,h2⟩:=h
  exact ⟨e,hu,⟨h2⟩⟩
 ·cases h
def X6 (P:Program) (f:FuncId):Bool:=
 match P.funcs[f]? with
 | some fn=>!(fn.name== "runtime.NumGoroutine")&&!fn.body.isNone
 | none=>false
class Fun (P:Program) (f:FuncId):Prop where
 ok:X6 P f=true
theorem Fun.run {P:Program} {f:FuncId} (h:Fun P f) (args:Array Value) (w:World):(callFunc f args).run P w= .ok (.enter f args) w:=by
 have h:=h.ok
 unfold X6 at h
 split at h
 ·rename_i fn hf
  simp only [Bool.and_eq_true,Bool.not_eq_true'] at h
  have hp:Sem.run P (Sem.program Sem.pure) w= .ok P w:=rfl
  have h1: ¬fn.name= "runtime.NumGoroutine" :=by simpa using h.1
  have h2: ¬fn.body=none:=fun e=>by have:=h.2;rw [e] at this;cases this
  simp [callFunc,program,hp,hf,h1,h2]
 ·cases h
def ID (ops:List Oper) (s:Nat→AV) (g:Nat):AV:=match ops[g]? with|some o=>(match o.dst with|some d=>s d|none=> .junk)|none=> .junk
def gOk (ops:List Oper) (s:Nat→AV):Option (Nat×Bool)→Prop
 | none=>True
 | some (g,want)=>ID ops s g= .one (.v (.bool want))
theorem NV {ops:List Oper} {s:Nat→AV} {g:Nat} {b:Bool} (h:ID ops s g= .one (.v (.bool b))): ∃o',ops[g]?=some o'∧ ∃d,o'.dst=some d∧s d= .one (.v (.bool b)):=by
 unfold ID at h
 split at h
 ·rename_i o ho
  split at h
  ·rename_i d hd
   exact ⟨o,ho,d,hd,h⟩
  ·cases h
 ·cases h
section
variable {P:Program} {X:Ctx} {ops l:List Oper} {σ σ':St} {es:List Eff}
theorem Run.step {o:Oper} {e:Eff} (hg:gOk ops σ.s o.guard) (hS:Sim P X o σ.s σ.sz e) (hr:O9 σ.m e.rd) (ha:Ki σ.sz e.al) (hl:Run P X ops l (σ.app o.dst e) es σ'):Run P X ops (o::l) σ (e::es) σ':=by
 refine .cons ?_ hr ha hl
 unfold Ms
 unfold gOk at hg
 cases hgd:o.guard with
 | none=>exact hS
 | some gw=>
   obtain ⟨g,want⟩:=gw
   rw [hgd] at hg
   obtain ⟨o',h1,d,h2,h3⟩:=NV hg
   exact ⟨o',h1,d,h2,.inl ⟨h3,hS⟩⟩
theorem Ty {dst:Option Tmp} {op:Op} {ty:TypeId} {pos:String} {af:Array Edge} {g:Nat} {want:Bool} (hg:ID ops σ.s g= .one (.v (.bool (!want)))) (hl:Run P X ops l (σ.app dst FR) es σ'):
  Run P X ops (⟨dst,op,ty,pos,af,some (g,want)⟩::l) σ (FR::es) σ':=by
 refine .cons (e:=FR) ?_ (fun p hp=>by cases hp) Ct hl
 obtain ⟨o',h1,d,h2,h3⟩:=NV hg
 exact ⟨o',h1,d,h2,.inr (.inl ⟨h3,rfl⟩)⟩
def Dc (P:Program) (o:Oper) (s:Nat→AV) (av:AV):Prop:=
 ∀(W0:World) (μ:Nat→Nat×Nat) (sz:Nat→Nat) (w:World) (ρ:Operand→Value),(∀x∈o.op.operands,cv W0 μ sz w (ρ x) (evC s x))→ ∃v,(execOp ρ o).run P w= .ok (.value v) w∧cv W0 μ sz w v av
theorem C5 {o:Oper} {s s':Nat→AV} (h: ∀t∈Gp o,Le (s' t) (s t)) {x:Operand} (hx:x∈o.op.operands) {W0:World} {μ:Nat→Nat×Nat} {sz:Nat→Nat} {w:World} {v:Value} (hv:cv W0 μ sz w v (evC s' x)):cv W0 μ sz w v (evC s x):=by
 cases x with
 | tmp t=>exact (h t (List.mem_filterMap.2 ⟨.tmp t,Array.mem_toList_iff.2 hx,rfl⟩)).cv hv
 | const v=>cases v<;>exact hv
 | _=>exact hv
theorem UW (σ:St) (d:Option Tmp) (av:AV):σ.app d ⟨av,[],[],[]⟩=⟨Pf σ.s d av,σ.m,σ.sz⟩:=rfl
theorem Sim.of_pure {o:Oper} {s:Nat→AV} {z:Nat→Nat} {av:AV} (hd: ∀t,o.dst=some t→t<X.n) (h:Dc P o s av):Sim P X o s z ⟨av,[],[],[]⟩:=by
 intro σ hs _ _ _ a w hc K Q hK
 obtain ⟨W,hW,μ,hc⟩:=hc
 obtain ⟨v,hv,hav⟩:=h W μ σ.sz w a.eval (fun x hx=>C5 hs hx (hc.ev x))
 unfold Oper.wp
 rw [hv]
 exact hK _ _ ⟨W,hW,μ,by rw [UW];exact Ck hc hd hav⟩
theorem run_pure {o:Oper} {av:AV} (hg:gOk ops σ.s o.guard) (hd: ∀t,o.dst=some t→t<X.n) (h:Dc P o σ.s av) (hl:Run P X ops l (σ.app o.dst ⟨av,[],[],[]⟩) es σ'):Run P X ops (o::l) σ (⟨av,[],[],[]⟩::es) σ':=
 Run.step hg (Sim.of_pure hd h) (fun p hp=>by cases hp) Ct hl
variable {dst:Option Tmp} {ty:TypeId} {pos:String} {af:Array Edge} {gd:Option (Nat×Bool)} {s:Nat→AV}
theorem RY {x:Operand} {av:AV} (h:evC s x=av):Dc P ⟨dst,.move x,ty,pos,af,gd⟩ s av:=fun W0 μ sz w ρ hρ=>⟨ρ x,rfl,by rw [←h];exact hρ x (by simp [Op.operands])⟩
theorem Nv {x:Operand} {av:AV} (h:evC s x=av):Dc P ⟨dst,.assign x,ty,pos,af,gd⟩ s av:=fun W0 μ sz w ρ hρ=>⟨ρ x,rfl,by rw [←h];exact hρ x (by simp [Op.operands])⟩
theorem Pg {c x y:Operand} {av:AV} (hc:evC s c= .one (.v (.bool true))) (h:evC s x=av):Dc P ⟨dst,.pick c x y,ty,pos,af,gd⟩ s av:=fun W0 μ sz w ρ hρ=>by
 have h1:=hρ c (by simp [Op.operands])
 rw [hc] at h1
 have h2:=hρ x (by simp [Op.operands])
 rw [h] at h2
 refine ⟨ρ x,?_,h2⟩
 have:ρ c= .bool true:=h1
 simp [execOp,this,asBool]
theorem Ph {c x y:Operand} {av:AV} (hc:evC s c= .one (.v (.bool false))) (h:evC s y=av):Dc P ⟨dst,.pick c x y,ty,pos,af,gd⟩ s av:=fun W0 μ sz w ρ hρ=>by
 have h1:=hρ c (by simp [Op.operands])
 rw [hc] at h1
 have h2:=hρ y (by simp [Op.operands])
 rw [h] at h2
 refine ⟨ρ y,?_,h2⟩
 have:ρ c= .bool false:=h1
 simp [execOp,this,asBool]
def mkA:Bool→List C→AV
 | true,cs=> .agg cs
 | false,c::_=> .one c
 | false,[]=> .junk
theorem Na {t:TypeId} {agg:Bool} {n:Nat} (hT:Tsz P t agg n) (cs:List Value) (off:Nat) (h1:agg=false→off<cs.length) (w:World):(Go.part t cs.toArray off).run P w=Result.ok (if agg then .agg ((cs.drop off).take n).toArray else cs.getD off undef) w:=by
 unfold Go.part
 rw [Sem.run_bind,hT.isAgg w,Result.andThen_ok]
 cases agg with
 | true=>
   simp only [if_true,Sem.run_bind,hT.size w,Result.andThen_ok,Sem.run_pure]
   congr 2
   simp [List.extract_eq_take_drop]
 | false=>
   have:=h1 rfl
   simp [Yv this,List.getD_eq_getElem?_getD]
theorem PR {R:Value→C→Prop} {l:List Value} {cs:List C} (h:B5 R l cs) (off n:Nat):B5 R ((l.drop off).take n) ((cs.drop off).take n):=by
 refine ⟨by simp [h.1],fun i a b ha hb=>?_⟩
 rw [List.getElem?_take] at ha hb
 split at ha
 ·rename_i hi
  rw [if_pos hi] at hb
  rw [List.getElem?_drop] at ha hb
  exact h.2 _ a b ha hb
 ·cases ha
theorem QI {W0:World} {μ:Nat→Nat×Nat} {sz:Nat→Nat} {w:World} {agg:Bool} {n:Nat} {l:List Value} {cs:List C} (h:B5 (cc W0 μ sz w) l cs) (off:Nat) (hn:off+n≤cs.length) (h0:agg=false→n=1):
  cv W0 μ sz w (if agg then .agg ((l.drop off).take n).toArray else l.getD off undef) (mkA agg ((cs.drop off).take n)):=by
 cases agg with
 | true=>exact ⟨_,rfl,PR h off n⟩
 | false=>
   have:=h0 rfl
   subst this
   have hlc:off<cs.length:=by omega
   have hll:off<l.length:=by rw [h.1];exact hlc
   have e1:(cs.drop off).take 1= [cs[off]]:=by
    rw [List.drop_eq_getElem_cons hlc];rfl
   rw [e1]
   have e2:l.getD off undef=l[off]:=by simp [List.getD_eq_getElem?_getD,hll]
   show cc W0 μ sz w (if false=true then _ else l.getD off undef) cs[off]
   rw [if_neg (by simp),e2]
   exact h.2 off _ _ (Yv hll) (Yv hlc)
theorem Pk {t:TypeId} {x:Operand} {i off:Nat} {agg:Bool} {n:Nat} [hF:Fld P t i off agg n] {cs:List C} {av:AV} (hx:evC s x= .agg cs) (hn:Nat.ble (off+n) cs.length=true) (h0:(agg || Nat.beq n 1)=true) (hav:mkA agg ((cs.drop off).take n)=av):
  Dc P ⟨dst,.field t x i,ty,pos,af,gd⟩ s av:=fun W0 μ sz w ρ hρ=>by
 have h1:=hρ x (by simp [Op.operands])
 rw [hx] at h1
 obtain ⟨l,hl,hall⟩:=h1
 obtain ⟨fs,f,hu,hf,rfl,hT,_⟩:=hF.get
 have hn:=Nat.le_of_ble_eq_true hn
 have h0':agg=false→n=1:=fun e=>by subst e;simpa using h0
 refine ⟨_,?_,by rw [←hav];exact QI hall f.offset hn h0'⟩
 have hlen:=hall.1
 have:=Na hT l f.offset (fun e=>by have:=h0' e;omega) w
 simp [execOp,Instr.field,run_underlying hu w,hf,hl,asAgg,this]
theorem Pj {t:TypeId} {x y:Operand} {len:Nat} {agg:Bool} {n:Nat} [hF:Ary P t len agg n] {cs:List C} {av:AV} {k:IntKind} {i:Int} (hx:evC s x= .agg cs) (hy:evC s y= .one (.v (.int k i))) (hi:(decide (0≤i)&&decide (i<len))=true) (hn:Nat.ble (i.toNat*n+n) cs.length=true) (h0:(agg || Nat.beq n 1)=true)
  (hav:mkA agg ((cs.drop (i.toNat*n)).take n)=av):Dc P ⟨dst,.index t x y,ty,pos,af,gd⟩ s av:=fun W0 μ sz w ρ hρ=>by
 have h1:=hρ x (by simp [Op.operands])
 rw [hx] at h1
 obtain ⟨l,hl,hall⟩:=h1
 have h2:=hρ y (by simp [Op.operands])
 rw [hy] at h2
 replace h2:ρ y= .int k i:=h2
 obtain ⟨e,hu,hT⟩:=hF.get
 have hn:=Nat.le_of_ble_eq_true hn
 have h0':agg=false→n=1:=fun e=>by subst e;simpa using h0
 simp only [Bool.and_eq_true,decide_eq_true_eq] at hi
 refine ⟨_,?_,by rw [←hav];exact QI hall (i.toNat*n) hn h0'⟩
 have hlen:=hall.1
 have:=Na hT l (i.toNat*n) (fun e=>by have:=h0' e;subst this;omega) w
 simp [execOp,Instr.index,run_underlying hu w,hl,h2,asIntOf,hi.1,hi.2,hT.size w,this]
theorem JB {t:TypeId} {x:Operand} {i fo:Nat} {agg:Bool} {n:Nat} [hF:Fld P t i fo agg n] {k off:Nat} (hx:evC s x= .one (.ptr k off)):Dc P ⟨dst,.fieldAddr t x i,ty,pos,af,gd⟩ s (.one (.ptr k (off+fo))):=fun W0 μ sz w ρ hρ=>by
 have h1:=hρ x (by simp [Op.operands])
 rw [hx] at h1
 obtain ⟨hp,hk⟩:=h1
 obtain ⟨fs,f,hu,hf,rfl,hT,hn⟩:=hF.get
 refine ⟨.pointer (some ⟨(μ k).1,off+f.offset,none⟩),?_,rfl,hk⟩
 simp [execOp,Instr.fieldAt,run_underlying hu w,hf,hp,Instr.sureAddr,fieldPlace,hT.size w,hn,Addr.add_mid]
theorem JA {t:TypeId} {x y:Operand} {len:Nat} {agg:Bool} {n:Nat} [hF:Ary P t len agg n] {k off:Nat} {ik:IntKind} {i:Int} (hx:evC s x= .one (.ptr k off)) (hy:evC s y= .one (.v (.int ik i))) (hi:(decide (0≤i)&&decide (i<len))=true):
  Dc P ⟨dst,.indexAddr t x y,ty,pos,af,gd⟩ s (.one (.ptr k (off+i.toNat*n))):=fun W0 μ sz w ρ hρ=>by
 have h1:=hρ x (by simp [Op.operands])
 rw [hx] at h1
 obtain ⟨hp,hk⟩:=h1
 have h2:=hρ y (by simp [Op.operands])
 rw [hy] at h2
 replace h2:ρ y= .int ik i:=h2
 obtain ⟨e,hu,hT⟩:=hF.get
 simp only [Bool.and_eq_true,decide_eq_true_eq] at hi
 refine ⟨.pointer (some ⟨(μ k).1,off+i.toNat*n,none⟩),?_,rfl,hk⟩
 simp [execOp,Instr.indexAt,run_underlying hu w,hp,h2,asIntOf,Instr.sureAddr,hi.1,hi.2,hT.size w,Addr.add_mid]
theorem LT {x:Operand} {i:Nat} {as:List AV} {a:AV} (hx:evC s x= .tup as) (ha:as[i]?=some a):Dc P ⟨dst,.extract x i,ty,pos,af,gd⟩ s a:=fun W0 μ sz w ρ hρ=>by
 have h1:=hρ x (by simp [Op.operands])
 rw [hx] at h1
 obtain ⟨vs,hv,hall⟩:=h1
 have hi:i<vs.length:=by rw [hall.1];exact (List.getElem?_eq_some_iff.1 ha).1
 have h2:=hall.2 i _ _ (Yv hi) ha
 refine ⟨vs[i],?_,?_⟩
 ·simp [execOp,Instr.extract,hv,hi]
 ·cases a with
  | tup l=>exact absurd h2 id
  | _=>exact h2
theorem Kq {x:Operand} {k off:Nat} (hx:evC s x= .one (.ptr k off)):Dc P ⟨dst,.nilCheck x,ty,pos,af,gd⟩ s (.one (.ptr k off)):=fun W0 μ sz w ρ hρ=>by
 have h1:=hρ x (by simp [Op.operands])
 rw [hx] at h1
 obtain ⟨hp,hk⟩:=h1
 exact ⟨_,by simp [execOp,hp],rfl,hk⟩
theorem IL {x:Operand} {f:FuncId} {caps:List (Nat×Nat)} (hx:evC s x= .one (.fn f caps)):Dc P ⟨dst,.nilCheck x,ty,pos,af,gd⟩ s (.one (.fn f caps)):=fun W0 μ sz w ρ hρ=>by
 have h1:=hρ x (by simp [Op.operands])
 rw [hx] at h1
 obtain ⟨hp,hk⟩:=h1
 exact ⟨_,by simp [execOp,hp],rfl,hk⟩
def Gl (op:BinOp) (k:IntKind) (a b:Int):Option Value:=
 match op with
 | .add=>some (.int k (k.wrap (a+b)))
 | .sub=>some (.int k (k.wrap (a-b)))
 | .mul=>some (.int k (k.wrap (a*b)))
 | .quo=>if b=0 then none else some (.int k (k.wrap (a.tdiv b)))
 | .rem=>if b=0 then none else some (.int k (a.tmod b))
 | .eql=>some (.bool (a==b))
 | .neq=>some (.bool (a !=b))
 | .lss=>some (.bool (decide (a<b)))
 | .leq=>some (.bool (decide (a≤b)))
 | .gtr=>some (.bool (decide (a>b)))
 | .geq=>some (.bool (decide (a≥b)))
 | _=>none
theorem TU {op:BinOp} {t u:TypeId} {x y:Operand} {k:IntKind} {a b:Int} {v:Value} (hx:evC s x= .one (.v (.int k a))) (hy:evC s y= .one (.v (.int k b))) (hv:Gl op k a b=some v):Dc P ⟨dst,.binOp op t x y u,ty,pos,af,gd⟩ s (.one (.v v)):=fun W0 μ sz w ρ hρ=>by
 have h1:=hρ x (by simp [Op.operands])
 rw [hx] at h1
 replace h1:ρ x= .int k a:=h1
 have h2:=hρ y (by simp [Op.operands])
 rw [hy] at h2
 replace h2:ρ y= .int k b:=h2
 refine ⟨v,?_,rfl⟩
 unfold Gl at hv
 cases op<;>simp at hv<;>simp [execOp,h1,h2,eqGuard,binOp,Op.intArith,Op.intCmp,Op.intDiv,hv]
 all_goals first
  | (obtain ⟨h0,rfl⟩:=hv;simp [h0])
theorem TP {t:TypeId} {x:Operand} {b:Bool} (hx:evC s x= .one (.v (.bool b))):Dc P ⟨dst,.unOp .not t x,ty,pos,af,gd⟩ s (.one (.v (.bool (!b)))):=fun W0 μ sz w ρ hρ=>by
 have h1:=hρ x (by simp [Op.operands])
 rw [hx] at h1
 replace h1:ρ x= .bool b:=h1
 exact ⟨_,by simp [execOp,h1,Op.unary],rfl⟩
theorem TQ {t:TypeId} {x:Operand} {k:IntKind} {n:Int} (hx:evC s x= .one (.v (.int k n))):Dc P ⟨dst,.unOp .neg t x,ty,pos,af,gd⟩ s (.one (.v (.int k (k.wrap (0-n))))):=fun W0 μ sz w ρ hρ=>by
 have h1:=hρ x (by simp [Op.operands])
 rw [hx] at h1
 replace h1:ρ x= .int k n:=h1
 exact ⟨_,by simp [execOp,h1,Op.unary,Op.intArith],rfl⟩
theorem Kr {f:FuncId} {capt:Array Operand} {caps:List (Nat×Nat)} (hc:capt.toList.map (evC s)=caps.map fun p=> .one (.ptr p.1 p.2)):Dc P ⟨dst,.makeFunc (.func f) #[] capt,ty,pos,af,gd⟩ s (.one (.fn f caps)):=fun W0 μ sz w ρ hρ=>by
 obtain ⟨cl,rfl⟩: ∃cl:List Operand,capt=cl.toArray:=⟨capt.toList,by simp⟩
 have hρ': ∀x∈cl,cv W0 μ sz w (ρ x) (evC s x):=fun x hx=>hρ x (by simp [Op.operands];exact hx)
 simp only at hc
 have key: ∀(cl:List Operand) (caps:List (Nat×Nat)),cl.map (evC s)=caps.map (fun p=>AV.one (.ptr p.1 p.2))→(∀x∈cl,cv W0 μ sz w (ρ x) (evC s x))→cl.map ρ=caps.map (fun p=>Value.pointer (some ⟨(μ p.1).1,p.2,none⟩))∧ ∀p∈caps,sz p.1≠0:=by
  intro cl
  induction cl with
  | nil=>intro caps h _;cases caps with
    | nil=>exact ⟨rfl,fun p hp=>by cases hp⟩
    | cons _ _=>simp at h
  | cons x cl ih=>
    intro caps h hx
    cases caps with
    | nil=>simp at h
    | cons p caps=>
      simp only [List.map_cons,List.cons.injEq] at h
      obtain ⟨i1,i2⟩:=ih caps h.2 fun y hy=>hx y (List.mem_cons_of_mem _ hy)
      have h3:=hx x List.mem_cons_self
      rw [h.1] at h3
      obtain ⟨h4,h5⟩:=h3
      refine ⟨by rw [List.map_cons,List.map_cons,i1,h4],fun q hq=>?_⟩
      rcases List.mem_cons.1 hq with rfl|hq
      ·exact h5
      ·exact i2 q hq
 obtain ⟨k1,k2⟩:=key cl caps hc hρ'
 refine ⟨_,?_,rfl,k2⟩
 simp [execOp,Instr.makeFunc,k1]
end
def JQ (a:Array Value):Nat→List Value→Array Value
 | _,[]=>a
 | o,v::r=>JQ (a.setIfInBounds o v) (o+1) r
theorem Fp: ∀(vs:List Value) (a:Array Value) (o:Nat),(JQ a o vs).size=a.size
 | [],_,_=>rfl
 | v::r,a,o=>by show (JQ _ _ r).size=_;rw [Fp r];simp
structure Ys (b:Nat) (w w':World):Prop where
 os:w'.os=w.os
 tape:w'.tape=w.tape
 output:w'.output=w.output
 size:w'.heap.size=w.heap.size
 other: ∀g,g≠b→w'.heap[g]?=w.heap[g]?
theorem GM (b:Nat): ∀(vs:List Value) (o:Nat) (w:World),Ys b w (w.setCells b o vs)
 | [],_,_=>⟨rfl,rfl,rfl,rfl,fun _ _=>rfl⟩
 | v::r,o,w=>by
   have h:=GM b r (o+1) (w.setCell ⟨b,o,none⟩ v)
   exact ⟨h.os,h.tape,h.output,by rw [show w.setCells b o (v::r)=(w.setCell ⟨b,o,none⟩ v).setCells b (o+1) r from rfl,h.size];simp [World.setCell],fun g hg=>(h.other g hg).trans (heap_setCell_other w _ g v hg)⟩
theorem E4 (b:Nat) (e:TypeId): ∀(vs:List Value) (o:Nat) (w:World) (a:Array Value),w.heap[b]?=some (.cells a e (0,0))→(w.setCells b o vs).heap[b]?=some (.cells (JQ a o vs) e (0,0))
 | [],_,_,_,h=>h
 | v::r,o,w,a,h=>E4 b e r (o+1) _ _ (heap_setCell_same w b o a e v h)
theorem Qv {R:Nat→Value→C→Prop} : ∀ {vs:List Value} {cs:List C} {a:Array Value} {f:Nat→C} {off:Nat},vs.length=cs.length→(∀(i:Nat) v c,vs[i]?=some v→cs[i]?=some c→R (off+i) v c)→(∀(o:Nat) x,a[o]?=some x→R o x (f o))→ ∀(o:Nat) x,(JQ a off vs)[o]?=some x→R o x (laid f off cs o)
 | [],[],_,_,_,_,_,hf,o,x,h=>hf o x h
 | [],_::_,_,_,_,h,_,_,_,_,_=>by simp at h
 | _::_,[],_,_,_,h,_,_,_,_,_=>by simp at h
 | v::vs,c::cs,a,f,off,hl,h,hf,o,x,hx=>by
   refine Qv (vs:=vs) (cs:=cs) (a:=a.setIfInBounds off v) (f:=upd f off c) (off:=off+1) (by simpa using hl) (fun i p q hp hq=>by rw [show off+1+i=off+(i+1) from by omega];exact h (i+1) p q (by simpa using hp) (by simpa using hq)) (fun o x hx=>?_) o x hx
   by_cases ho:off=o
   ·subst ho
    rw [AI]
    by_cases hlt:off<a.size
    ·simp [hlt] at hx
     subst hx
     exact h 0 _ _ rfl rfl
    ·rw [Array.getElem?_eq_none (by simpa using hlt)] at hx;cases hx
   ·rw [Cj (Ne.symm ho)]
    rw [Array.getElem?_setIfInBounds_ne ho] at hx
    exact hf o x hx
def rdL (f:Nat→C):Nat→Nat→List C
 | _,0=> []
 | off,n+1=>f off::rdL f (off+1) n
theorem EL (f:Nat→C): ∀(n off:Nat),(rdL f off n).length=n
 | 0,_=>rfl
 | n+1,off=>by simp [rdL,EL f n]
theorem DB (f:Nat→C): ∀(n off i:Nat),i<n→(rdL f off n)[i]?=some (f (off+i))
 | 0,_,_,h=>by omega
 | n+1,off,0,_=>rfl
 | n+1,off,i+1,h=>by
   show (rdL f (off+1) n)[i]?=_
   rw [DB f n (off+1) i (by omega),show off+1+i=off+(i+1) from by omega]
section
variable {P:Program} {X:Ctx} {ops l:List Oper} {σ σ':St} {es:List Eff}
variable {dst:Option Tmp} {ty:TypeId} {pos:String} {af:Array Edge} {gd:Option (Nat×Bool)} {s:Nat→AV} {z:Nat→Nat}
theorem Cn.slice {μ:Nat→Nat×Nat} {a:Act} {w:World} (h:Cn X μ σ a w) {k off n:Nat} (hk:σ.sz k≠0) (hn:off+n≤σ.sz k):
  ∃vs:List Value,vs.length=n∧w.rangeAt (μ k).1 off vs∧w.there (μ k).1 off n∧ ∀(i:Nat) v,vs[i]?=some v→cc X.W0 μ σ.sz w v (σ.m k (off+i))∧nl (σ.m k (off+i)):=by
 obtain ⟨cs,e,hb,hs,hle,hc⟩:=h.blk k hk
 refine ⟨(cs.toList.drop off).take n,by simp;omega,fun j v hj=>?_,fun j hj=>?_,fun i v hi=>?_⟩
 ·rw [List.getElem?_take] at hj
  split at hj
  ·rw [List.getElem?_drop,Array.getElem?_toList] at hj
   rw [cell_of_row w _ _ cs e (0,0) hb]
   exact hj
  ·cases hj
 ·refine ⟨?_,frozen_of_row w _ _ cs e hb⟩
  rw [cell_of_row w _ _ cs e (0,0) hb]
  simp only [Option.isSome_iff_exists]
  exact ⟨_,Array.getElem?_eq_getElem (by omega)⟩
 ·rw [List.getElem?_take] at hi
  split at hi
  ·rw [List.getElem?_drop,Array.getElem?_toList] at hi
   exact (hc _ _ hi).2 (by omega)
  ·cases hi
theorem Tsz.row {t:TypeId} {n:Nat} (h:Tsz P t true n): ∃d,P.underlying t=some d∧d.isRow=true:=by
 have h:=h.ok
 unfold MH at h
 simp only [Bool.and_eq_true,Option.isSome_iff_exists,beq_iff_eq] at h
 obtain ⟨⟨⟨d,hd⟩,h2⟩,_⟩:=h
 rw [hd] at h2
 refine ⟨d,hd,?_⟩
 cases d<;>first|rfl|cases h2
theorem Tc {t:TypeId} {x:Operand} {agg:Bool} {n:Nat} [hT:Tsz P t agg n] {k off:Nat} {cs:List C} (hd: ∀t,dst=some t→t<X.n) (hx:evC s x= .one (.ptr k off)) (hlen:cs.length=n) (hz:Nat.ble (off+n) (z k)=true) (hn:Nat.blt 0 n=true) (h0:(agg || Nat.beq n 1)=true):
  Sim P X ⟨dst,.load t x,ty,pos,af,gd⟩ s z ⟨mkA agg cs,[(k,off,cs)],[],[]⟩:=by
 refine Sim.of0 fun W=>?_
 replace hd: ∀t,dst=some t→t<(X.at W).n:=hd
 generalize X.at W=X at hd⊢
 intro σ hs hsz hrd _ a w hc K Q hK
 obtain ⟨μ,hc⟩:=hc
 have hz:=Nat.le_of_ble_eq_true hz
 have hn:0<n:=by simpa using hn
 have hev:=hc.ev x
 replace hev:=C5 (o:=⟨dst,.load t x,ty,pos,af,gd⟩) hs (by simp [Op.operands]) hev
 rw [hx] at hev
 obtain ⟨hp,hk⟩:=hev
 have hzk:σ.sz k=z k:=by rcases hsz k (by omega) with h|h;exact absurd h hk;exact h
 obtain ⟨vs,hvl,hr,hth,hv⟩:=hc.slice (k:=k) (off:=off) (n:=n) hk (by omega)
 have hm: ∀(i:Nat) c,cs[i]?=some c→σ.m k (off+i)=c:=fun i c hi=>hrd (k,off,cs) (by simp) i c hi
 have hall:B5 (cc X.W0 μ σ.sz w) vs cs:=⟨by omega,fun i v c hvi hci=>by rw [←hm i c hci];exact (hv i v hvi).1⟩
 have hfin: ∀v,(execOp a.eval ⟨dst,.load t x,ty,pos,af,gd⟩).run P w= .ok (.value v) w→cv X.W0 μ σ.sz w v (mkA agg cs)→Oper.wp P ⟨dst,.load t x,ty,pos,af,gd⟩ a w K Q:=fun v hv hcv=>by
  unfold Oper.wp
  rw [hv]
  exact hK _ _ ⟨μ,Ck hc hd hcv⟩
 cases agg with
 | true=>
   obtain ⟨d,hu,hrow⟩:=hT.row
   refine hfin (.agg vs.toArray) ?_ ⟨vs,rfl,hall⟩
   have:=run_loadAt_mid (P:=P) w (μ k).1 off t vs d hr hu hrow (by rw [hT.info,hvl])
   simp [execOp,hp,this]
 | false=>
   have hn1:n=1:=by simpa using h0
   subst hn1
   obtain ⟨v,rfl⟩: ∃v,vs= [v]:=by
    match vs,hvl with
    | [v],_=>exact ⟨v,rfl⟩
   obtain ⟨c,rfl⟩: ∃c,cs= [c]:=by
    match cs,hlen with
    | [c],_=>exact ⟨c,rfl⟩
   refine hfin v ?_ (hall.2 0 v c rfl rfl)
   have h1:w.cell? ⟨(μ k).1,off,none⟩=some v:=hr 0 v rfl
   simp [execOp,hp,Instr.loadAt,Instr.sureAddr,loadVar,hT.isAgg w,h1]
theorem Nb {t:TypeId} {x:Operand} {agg:Bool} {n:Nat} [hT:Tsz P t agg n] {k off:Nat} (hg:gOk ops σ.s gd) (hd: ∀t,dst=some t→t<X.n) (hx:evC σ.s x= .one (.ptr k off)) (hz:Nat.ble (off+n) (σ.sz k)=true) (hn:Nat.blt 0 n=true) (h0:(agg || Nat.beq n 1)=true)
  (hl:Run P X ops l (σ.app dst ⟨mkA agg (rdL (σ.m k) off n),[(k,off,rdL (σ.m k) off n)],[],[]⟩) es σ'):
  Run P X ops (⟨dst,.load t x,ty,pos,af,gd⟩::l) σ (⟨mkA agg (rdL (σ.m k) off n),[(k,off,rdL (σ.m k) off n)],[],[]⟩::es) σ':=by
 refine Run.step hg (Tc hd hx (EL _ _ _) hz hn h0) (fun p hp i c hc=>?_) Ct hl
 have:p=(k,off,rdL (σ.m k) off n):=by simpa using hp
 subst this
 have hi:i<n:=by
  have:=(List.getElem?_eq_some_iff.1 hc).1
  simpa [EL] using this
 have h2:=DB (σ.m k) n off i hi
 have h3:some (σ.m k (off+i))=some c:=h2.symm.trans hc
 exact Option.some.inj h3
def At:AV→List C
 | .one c=> [c]
 | .agg cs=>cs
 | _=> []
def Dg:AV→Bool
 | .agg _=>true
 | _=>false
theorem Ek {W0 W0':World} {μ μ':Nat→Nat×Nat} {sz sz':Nat→Nat} {w w':World} {x:Value} {c:C} {p:Prop} (h:noL x∧(p→cc W0 μ sz w x c∧nl c)) (k:Kl w w') (hm: ∀i,sz i≠0→μ' i=μ i∧sz' i≠0) (he:Ext W0 W0':=by exact Ext.refl _):noL x∧(p→cc W0' μ' sz' w' x c∧nl c):=
 ⟨h.1,fun hp=>⟨(h.2 hp).1.mono k hm he,(h.2 hp).2⟩⟩
theorem Cn.store {μ:Nat→Nat×Nat} {a:Act} {w:World} (h:Cn X μ σ a w) {k off:Nat} (hk:σ.sz k≠0) {vs:List Value} {cs:List C} (hv:B5 (cc X.W0 μ σ.sz w) vs cs) (hn: ∀c∈cs,nl c):
  Cn X μ ⟨σ.s,wrM σ.m [(k,off,cs)],σ.sz⟩ a (w.setCells (μ k).1 off vs):=by
 obtain ⟨ca,e,hb,hs,hle,hc⟩:=h.blk k hk
 have S:=GM (μ k).1 vs off w
 have hb2:=E4 (μ k).1 e vs off w ca hb
 have kl:Kl w (w.setCells (μ k).1 off vs):=⟨by rw [S.size];exact Yu _,fun g c e' fz hg hu=>by
  by_cases hgk:g=(μ k).1
  ·exfalso
   subst hgk
   rw [hb] at hg
   cases hg
   obtain ⟨i,n,hi⟩:=hu
   exact (hc i _ hi).1.1 n rfl
  ·exact S.other g hgk⟩
 have ext: ∀i,σ.sz i≠0→μ i=μ i∧σ.sz i≠0:=fun i hi=>⟨rfl,hi⟩
 have mk:wrM σ.m [(k,off,cs)]=upd σ.m k (laid (σ.m k) off cs):=rfl
 refine ⟨fun g hg=>?_,⟨S.os.trans h.kd.os,S.tape.trans h.kd.tape,S.output.trans h.kd.output,by rw [S.size];exact h.kd.size,fun g hg hD=>?_⟩,h.defers,h.size,fun t=>(h.slot t).mono kl ext,fun i hi=>?_,h.inj,h.own,h.par⟩
 ·rw [S.other g (by rintro rfl;exact (h.own k hk).1 hg)]
  exact h.w0 g hg
 ·rw [S.other g (by
   rintro rfl
   rcases (h.own k hk).2 with h1|h1
   ·omega
   ·exact hD h1)]
  exact h.kd.block g hg hD
 ·by_cases hik:i=k
  ·subst hik
   refine ⟨_,e,hb2,by rw [Fp];exact hs,by rw [Fp];exact hle,?_⟩
   rw [mk]
   simp only [AI]
   refine Qv (R:=fun o x c=>noL x∧(o<σ.sz i→cc X.W0 μ σ.sz (w.setCells (μ i).1 off vs) x c∧nl c)) hv.1 (fun j v c hj hcj=>?_) (fun o x hx=>Ek (hc o x hx) kl ext)
   have h1:=hv.2 j v c hj hcj
   have h2:=hn c (List.mem_of_getElem? hcj)
   exact ⟨h1.noL h2,fun _=>⟨h1.mono kl ext,h2⟩⟩
  ·obtain ⟨cs',e',h1,h2,h4,h3⟩:=h.blk i hi
   refine ⟨cs',e',by rw [S.other _ (fun hh=>hik (h.inj i k hi hk hh))];exact h1,h2,h4,fun o x hx=>?_⟩
   rw [mk]
   simp only [Cj hik]
   exact Ek (h3 o x hx) kl ext
theorem Rl {t:TypeId} {x y:Operand} {agg:Bool} {n:Nat} [hT:Tsz P t agg n] {k off:Nat} {av:AV} (hd: ∀t,dst=some t→t<X.n) (hx:evC s x= .one (.ptr k off)) (hy:evC s y=av) (hlen:Nat.beq (At av).length n=true) (ha:(Dg av || Nat.beq n 1)=true) (hz:Nat.ble (off+n) (z k)=true) (hn:Nat.blt 0 n=true) (hnl:(At av).all nlB=true):
  Sim P X ⟨dst,.store t x y,ty,pos,af,gd⟩ s z ⟨.junk,[],[(k,off,At av)],[]⟩:=by
 refine Sim.of0 fun W=>?_
 replace hd: ∀t,dst=some t→t<(X.at W).n:=hd
 generalize X.at W=X at hd⊢
 intro σ hs hsz _ _ a w hc K Q hK
 obtain ⟨μ,hc⟩:=hc
 have hz:=Nat.le_of_ble_eq_true hz
 have hn:0<n:=by simpa using hn
 have hlen:(At av).length=n:=by simpa using hlen
 have hev:=hc.ev x
 replace hev:=C5 (o:=⟨dst,.store t x y,ty,pos,af,gd⟩) hs (by simp [Op.operands]) hev
 rw [hx] at hev
 obtain ⟨hp,hk⟩:=hev
 have hey:=hc.ev y
 replace hey:=C5 (o:=⟨dst,.store t x y,ty,pos,af,gd⟩) hs (by simp [Op.operands]) hey
 rw [hy] at hey
 have hzk:σ.sz k=z k:=by rcases hsz k (by omega) with h|h;exact absurd h hk;exact h
 obtain ⟨vs,hvl,hr,hth,hv⟩:=hc.slice (k:=k) (off:=off) (n:=n) hk (by omega)
 have hnl': ∀c∈At av,nl c:=fun c hcm=>DM (List.all_eq_true.1 hnl c hcm)
 have hfin: ∀us,B5 (cc X.W0 μ σ.sz w) us (At av)→(execOp a.eval ⟨dst,.store t x y,ty,pos,af,gd⟩).run P w= .ok .skip (w.setCells (μ k).1 off us)→Oper.wp P ⟨dst,.store t x y,ty,pos,af,gd⟩ a w K Q:=fun us hus hrun=>by
  unfold Oper.wp
  rw [hrun]
  refine hK _ _ ⟨μ,?_⟩
  exact Ck (hc.store (off:=off) hk hus hnl') (d:=dst) hd (v:=undef) (av:= .junk) trivial
 cases av with
 | agg cs=>
   obtain ⟨us,hus,hall⟩:=hey
   have hul:us.length=n:=by rw [hall.1];exact hlen
   refine hfin us hall ?_
   have h1:us.toArray.all (·.oneCell')=true:=by
    rw [Array.all_eq_true_iff_forall_mem]
    intro u hu
    obtain ⟨i,hi,rfl⟩:=List.mem_iff_getElem.1 (show u∈us by simpa using hu)
    have hc2:i<cs.length:=by rw [←hall.1];exact hi
    exact ((hall.2 i _ _ (Yv hi) (Yv hc2)).noL (hnl' _ (List.getElem_mem hc2))).2
   have:=run_storeAt_mid (P:=P) w (μ k).1 off t us.toArray (by simpa [hul] using hth) (by rw [hT.info];simp [hul]) h1
   simp [execOp,hp,hus,this]
 | one c=>
   have hn1:n=1:=by simpa [Dg] using ha
   subst hn1
   replace hey:cc X.W0 μ σ.sz w (a.eval y) c:=hey
   have hno:=(hey.noL (hnl' c (by simp [At]))).2
   refine hfin [a.eval y] ⟨rfl,fun i p q hp hq=>?_⟩ ?_
   ·cases i with
    | zero=>simp at hp;simp [At] at hq;subst hp;subst hq;exact hey
    | succ i=>simp at hp
   ·obtain ⟨h1,h2⟩:=hth 0 (by omega)
    have hcl:(a.eval y).cells= #[a.eval y]:=by
     generalize a.eval y=v at*
     cases v<;>first|rfl|(simp [Value.oneCell'] at hno)
    obtain ⟨u,hu⟩:=Option.isSome_iff_exists.1 h1
    have hst:=run_store P w ⟨(μ k).1,off,none⟩ (a.eval y) .plain hno
    simp at hu h2
    simp [hu,h2] at hst
    simp [execOp,hp,Instr.storeAt,Instr.sureAddr,storeVar,hcl,hT.size w,storeCells,World.setCells,Addr.add_mid,hst]
 | tup l=>simp [At] at hlen;omega
 | junk=>simp [At] at hlen;omega
theorem Js {t:TypeId} {x y:Operand} {agg:Bool} {n:Nat} [hT:Tsz P t agg n] {k off:Nat} {av:AV} (hg:gOk ops σ.s gd) (hd: ∀t,dst=some t→t<X.n) (hx:evC σ.s x= .one (.ptr k off)) (hy:evC σ.s y=av) (hlen:Nat.beq (At av).length n=true) (ha:(Dg av || Nat.beq n 1)=true) (hz:Nat.ble (off+n) (σ.sz k)=true) (hn:Nat.blt 0 n=true) (hnl:(At av).all nlB=true)
  (hl:Run P X ops l (σ.app dst ⟨.junk,[],[(k,off,At av)],[]⟩) es σ'):
  Run P X ops (⟨dst,.store t x y,ty,pos,af,gd⟩::l) σ (⟨.junk,[],[(k,off,At av)],[]⟩::es) σ':=
 Run.step hg (Rl hd hx hy hlen ha hz hn hnl) (fun p hp=>by cases hp) Ct hl
theorem WG {μ:Nat→Nat×Nat} {a:Act} {w w':World} (h:Cn X μ σ a w) (k:Kp w w'):Cn X μ σ a w':=by
 have kl:=Kl.of_kp k
 have ext: ∀i,σ.sz i≠0→μ i=μ i∧σ.sz i≠0:=fun i hi=>⟨rfl,hi⟩
 refine ⟨h.w0.trans (.of_kp k),h.kd.trans (.of_kp k),h.defers,h.size,fun t=>(h.slot t).mono kl ext,fun i hi=>?_,h.inj,h.own,h.par⟩
 obtain ⟨cs,e,h1,h2,h4,h3⟩:=h.blk i hi
 exact ⟨cs,e,by rw [k.block _ (Array.getElem?_eq_some_iff.1 h1).1];exact h1,h2,h4,fun o x hx=>Ek (h3 o x hx) kl ext⟩
def EG (W0:World) (μ:Nat→Nat×Nat) (sz:Nat→Nat) (w:World) (k:Nat) (cs:List C):Prop:=
 ∃(a:Array Value) (e:TypeId),w.heap[(μ k).1]?=some (.cells a e (0,0))∧a.size=(μ k).2∧cs.length≤a.size∧(∀(o:Nat) x,a[o]?=some x→noL x)∧(∀(o:Nat) x c,a[o]?=some x→cs[o]?=some c→cc W0 μ sz w x c)∧ ∀c∈cs,nl c
theorem Gm {k:Nat} : ∀ {l:List (Nat×List C)} {m:Nat→Nat→C},(∀p∈l,p.1≠k)→wrM m (alR l) k=m k
 | [],_,_=>rfl
 | p::l,m,h=>by
   show wrM (upd m p.1 (laid (m p.1) 0 p.2)) (alR l) k=m k
   rw [Gm fun q hq=>h q (List.mem_cons_of_mem _ hq),Cj (Ne.symm (h p List.mem_cons_self))]
theorem Ll {o:Nat} {c:C} {p:Nat×List C} (hc:p.2[o]?=some c): ∀ {l:List (Nat×List C)} {m:Nat→Nat→C},(l.map (·.1)).Nodup→p∈l→wrM m (alR l) p.1 o=c
 | [],_,_,h=>by cases h
 | q::l,m,hnd,h=>by
   show wrM (upd m q.1 (laid (m q.1) 0 q.2)) (alR l) p.1 o=c
   rw [List.map_cons,List.nodup_cons] at hnd
   rcases List.mem_cons.1 h with rfl|h
   ·rw [Gm fun q hq hh=>hnd.1 (List.mem_map.2 ⟨q,hq,hh⟩),AI]
    have:=Eb (f:=m p.1) (off:=0) hc
    rw [Nat.zero_add] at this
    exact this
   ·exact Ll hc hnd.2 h
theorem Eg {k:Nat} : ∀ {l:List (Nat×List C)} {z:Nat→Nat},(∀p∈l,p.1≠k)→alZ z l k=z k
 | [],_,_=>rfl
 | p::l,z,h=>by
   show alZ (upd z p.1 p.2.length) l k=z k
   rw [Eg fun q hq=>h q (List.mem_cons_of_mem _ hq),Cj (Ne.symm (h p List.mem_cons_self))]
theorem Mn {p:Nat×List C} : ∀ {l:List (Nat×List C)} {z:Nat→Nat},(l.map (·.1)).Nodup→p∈l→alZ z l p.1=p.2.length
 | [],_,_,h=>by cases h
 | q::l,z,hnd,h=>by
   show alZ (upd z q.1 q.2.length) l p.1=p.2.length
   rw [List.map_cons,List.nodup_cons] at hnd
   rcases List.mem_cons.1 h with rfl|h
   ·rw [Eg fun q hq hh=>hnd.1 (List.mem_map.2 ⟨q,hq,hh⟩),AI]
   ·exact Mn hnd.2 h
theorem Cn.adds {μ μ':Nat→Nat×Nat} {a:Act} {w:World} (h:Cn X μ σ a w) {ns:List (Nat×List C)} (hid:Ki σ.sz ns) (hμ: ∀k,(∀q∈ns,q.1≠k)→μ' k=μ k) (hb: ∀q∈ns,EG X.W0 μ' (alZ σ.sz ns) w q.1 q.2)
  (hfr: ∀q∈ns,¬alive X.W0 (μ' q.1).1∧X.base.heap.size≤(μ' q.1).1∧ ∀i,σ.sz i≠0→(μ i).1≠(μ' q.1).1) (hi: ∀p∈ns,∀q∈ns,(μ' p.1).1=(μ' q.1).1→p.1=q.1):Cn X μ' ⟨σ.s,wrM σ.m (alR ns),alZ σ.sz ns⟩ a w:=by
 have kl:=Kl.refl w
 have out: ∀i,σ.sz i≠0→ ∀q∈ns,q.1≠i:=fun i hi q hq hqi=>hi (by rw [←hqi];exact (hid.1 q hq).1)
 have ext: ∀i,σ.sz i≠0→μ' i=μ i∧alZ σ.sz ns i≠0:=fun i hi=>⟨hμ i (out i hi),by rw [Eg (out i hi)];exact hi⟩
 have cases': ∀k,alZ σ.sz ns k≠0→(∃q∈ns,q.1=k∧alZ σ.sz ns k=q.2.length)∨(σ.sz k≠0∧μ' k=μ k∧alZ σ.sz ns k=σ.sz k∧ ∀q∈ns,q.1≠k):=fun k hk=>by
  by_cases hin: ∃q∈ns,q.1=k
  ·obtain ⟨q,hq,rfl⟩:=hin
   exact .inl ⟨q,hq,rfl,Mn hid.2 hq⟩
  ·have ho: ∀q∈ns,q.1≠k:=fun q hq hh=>hin ⟨q,hq,hh⟩
   rw [Eg ho] at hk
   exact .inr ⟨hk,hμ k ho,Eg ho,ho⟩
 refine ⟨h.w0,h.kd,h.defers,h.size,fun t=>(h.slot t).mono kl ext,fun k hk=>?_,fun k k' hk hk' he=>?_,fun k hk=>?_,fun k hk=>?_⟩
 ·rcases cases' k hk with ⟨q,hq,rfl,hl⟩|⟨h1,h2,h3,h4⟩
  ·obtain ⟨ca,e,b1,b2,b3,b4,b5,b6⟩:=hb q hq
   refine ⟨ca,e,b1,b2,?_,fun o x hx=>⟨b4 o x hx,fun ho=>?_⟩⟩
   ·show alZ σ.sz ns q.1≤_
    rw [hl];exact b3
   ·replace ho:o<alZ σ.sz ns q.1:=ho
    rw [hl] at ho
    have hc:=Yv ho
    show cc _ _ _ _ _ (wrM σ.m (alR ns) q.1 o)∧nl (wrM σ.m (alR ns) q.1 o)
    rw [Ll hc hid.2 hq]
    exact ⟨b5 o x _ hx hc,b6 _ (List.getElem_mem ho)⟩
  ·obtain ⟨ca,e,b1,b2,b3,b4⟩:=h.blk k h1
   refine ⟨ca,e,by rw [h2];exact b1,by rw [h2];exact b2,by show alZ σ.sz ns k≤_;rw [h3];exact b3,fun o x hx=>?_⟩
   show noL x∧(o<alZ σ.sz ns k→cc _ _ _ _ _ (wrM σ.m (alR ns) k o)∧nl (wrM σ.m (alR ns) k o))
   rw [Gm h4,h3]
   exact Ek (b4 o x hx) kl ext
 ·rcases cases' k hk with ⟨q,hq,rfl,_⟩|⟨h1,h2,_,_⟩<;>rcases cases' k' hk' with ⟨q',hq',rfl,_⟩|⟨h1',h2',_,_⟩
  ·exact hi q hq q' hq' he
  ·rw [h2'] at he
   exact absurd he.symm ((hfr q hq).2.2 k' h1')
  ·rw [h2] at he
   exact absurd he ((hfr q' hq').2.2 k h1)
  ·rw [h2,h2'] at he
   exact h.inj k k' h1 h1' he
 ·rcases cases' k hk with ⟨q,hq,rfl,_⟩|⟨h1,h2,_,_⟩
  ·exact ⟨(hfr q hq).1,.inl (hfr q hq).2.1⟩
  ·rw [h2];exact h.own k h1
 ·have:=h.par k hk
  obtain ⟨h1,h2⟩:=ext k this.2
  exact ⟨h1.trans this.1,h2⟩
theorem Cn.new {μ:Nat→Nat×Nat} {a:Act} {w:World} (h:Cn X μ σ a w) {id:Nat} (hid:σ.sz id=0) {w':World} {g:Nat} {vs:Array Value} {e:TypeId} (hk:Kp w w') (hg:w.heap.size≤g) (hb:w'.heap[g]?=some (.cells vs e (0,0))) {cs:List C} (hcs:cs≠ [])
  (hl:cs.length≤vs.size) (hL: ∀(o:Nat) x,vs[o]?=some x→noL x) (hv: ∀(o:Nat) x c,vs[o]?=some x→cs[o]?=some c→cc X.W0 μ σ.sz w' x c) (hn: ∀c∈cs,nl c):Cn X (upd μ id (g,vs.size)) ⟨σ.s,wrM σ.m [(id,0,cs)],upd σ.sz id cs.length⟩ a w':=by
 have ext: ∀i,σ.sz i≠0→upd μ id (g,vs.size) i=μ i∧upd σ.sz id cs.length i≠0:=fun i hi=>by
  have hne:i≠id:=by rintro rfl;exact hi hid
  rw [Cj hne,Cj hne]
  exact ⟨rfl,hi⟩
 have old: ∀i,σ.sz i≠0→(μ i).1<w.heap.size:=fun i hi=>by
  obtain ⟨cs,e,h1,_⟩:=h.blk i hi
  exact (Array.getElem?_eq_some_iff.1 h1).1
 refine (WG h hk).adds (ns:= [(id,cs)]) (μ':=upd μ id (g,vs.size)) ⟨fun p hp=>?_,by simp⟩ (fun k hk=>Cj (Ne.symm (hk _ List.mem_cons_self))) (fun q hq=>?_) (fun q hq=>?_) (fun p hp q hq _=>by rw [List.mem_singleton.1 hp,List.mem_singleton.1 hq])
 ·rw [List.mem_singleton.1 hp];exact ⟨hid,hcs⟩
 ·rw [List.mem_singleton.1 hq]
  refine ⟨vs,e,by rw [AI];exact hb,by rw [AI],hl,hL,fun o x c hx hc=>(hv o x c hx hc).mono (.refl _) ext,hn⟩
 ·rw [List.mem_singleton.1 hq]
  rw [AI]
  exact ⟨fun ha=>by have h1:=HJ (h.w0.alive ha);have h2:w.heap.size≤g:=hg;have h3:g<w.heap.size:=h1;omega,Nat.le_trans h.kd.size hg,fun i hi=>by have:=old i hi;show _≠g;omega⟩
theorem Rp {t:TypeId} {zv:Value} [hZ:Zer P t zv] {id:Nat} (hd: ∀t,dst=some t→t<X.n):
  Sim P X ⟨dst,.alloc t,ty,pos,af,gd⟩ s z ⟨.one (.ptr id 0),[],[],[(id,zv.cells.toList.map .v)]⟩:=by
 refine Sim.of0 fun W=>?_
 replace hd: ∀t,dst=some t→t<(X.at W).n:=hd
 generalize X.at W=X at hd⊢
 intro σ hs hsz _ hal a w hc K Q hK
 obtain ⟨μ,hc⟩:=hc
 obtain ⟨hid,hne⟩:=hal.1 _ List.mem_cons_self
 have hz: ∀w,(zeroValue t).run P w= .ok zv w:=fun w=>by
  have:=hZ.ok
  cases hi:P.info? t with
  | none=>rw [hi] at this;cases this
  | some i=>
    rw [hi] at this
    have h2:i.zero=some zv:=this
    simp [zeroValue,typeInfo,hi,h2]
 have hrun:(execOp a.eval ⟨dst,.alloc t,ty,pos,af,gd⟩).run P w= .ok (.value (.pointer (some ⟨w.heap.size,0,none⟩))) (w.alloc (.cells zv.cells t)):=by
  simp [execOp,Instr.alloc,hz w,newVar,newRow]
 unfold Oper.wp
 rw [hrun]
 have hnew:=hc.new (id:=id) hid (w':=w.alloc (.cells zv.cells t)) (g:=w.heap.size) (vs:=zv.cells) (e:=t) ((Below.refl _ _).alloc (Yu _) _) (Yu _) (heap_alloc_new w _) hne
  (by simp) (fun o x hx=>GA (List.all_eq_true.1 hZ.nl x (by simpa using Array.mem_of_getElem? hx))) (fun i x c hx hcx=>by simp at hcx hx;rw [hx] at hcx;simp at hcx;subst hcx;rfl) (fun c hcm=>by
   obtain ⟨x,hx,rfl⟩:=List.mem_map.1 hcm
   exact GA (List.all_eq_true.1 hZ.nl x hx))
 refine hK _ _ ⟨upd μ id (w.heap.size,zv.cells.size),?_⟩
 refine Ck hnew (d:=dst) hd (v:= .pointer (some ⟨w.heap.size,0,none⟩)) (av:= .one (.ptr id 0)) ⟨by rw [AI],?_⟩
 show upd σ.sz id _ id≠0
 rw [AI]
 intro h0
 exact hne (List.eq_nil_of_length_eq_zero h0)
theorem RD {t:TypeId} {zv:Value} [hZ:Zer P t zv] (id:Nat) (hg:gOk ops σ.s gd) (hd: ∀t,dst=some t→t<X.n) (hf:Nat.beq (σ.sz id) 0=true) (hne:zv.cells.toList.isEmpty=false)
  (hl:Run P X ops l (σ.app dst ⟨.one (.ptr id 0),[],[],[(id,zv.cells.toList.map .v)]⟩) es σ'):
  Run P X ops (⟨dst,.alloc t,ty,pos,af,gd⟩::l) σ (⟨.one (.ptr id 0),[],[],[(id,zv.cells.toList.map .v)]⟩::es) σ':=
 Run.step hg (Rp hd) (fun p hp=>by cases hp) (EE (by simpa using hf) fun h=>by
  have:zv.cells.toList= []:=List.map_eq_nil_iff.1 h
  rw [this] at hne
  cases hne) hl
end
def pfC:C→Bool
 | .ptr _ _=>false
 | .fn _ caps=>caps.isEmpty
 | .gl _ _ _=>false
 | .sx _ _ _ _ _=>false
 | _=>true
def pf0:AV→Bool
 | .one c=>pfC c
 | .agg cs=>cs.all pfC
 | .junk=>true
 | .tup _=>false
def pf:AV→Bool
 | .tup l=>l.all pf0
 | a=>pf0 a
theorem cc.free {W0:World} {μ μ':Nat→Nat×Nat} {sz sz':Nat→Nat} {w:World} {x:Value} {c:C} (h:cc W0 μ sz w x c) (hp:pfC c=true):cc W0 μ' sz' w x c:=by
 cases c with
 | v y=>exact h
 | q r j i=>
   match i with
   | 0=>exact h
   | 1=>exact h
   | _+2=>exact h
 | ptr i off=>cases hp
 | fn f caps=>
   cases caps with
   | nil=>exact ⟨h.1,fun p hp=>by cases hp⟩
   | cons _ _=>cases hp
 | ints l=>exact h
 | iptr n=>exact h
 | gl k len es=>cases hp
 | ls es n cs=>exact h
 | fp cs=>exact h
 | sx k off len cap es=>cases hp
 | ny=>exact h
theorem B5.map {α β:Type} {R S:α→β→Prop} {l:List α} {m:List β} (h:B5 R l m) (hh: ∀a b,b∈m→R a b→S a b):B5 S l m:=⟨h.1,fun i a b ha hb=>hh _ _ (List.mem_of_getElem? hb) (h.2 i a b ha hb)⟩
theorem cv0.free {W0:World} {μ μ':Nat→Nat×Nat} {sz sz':Nat→Nat} {w:World} {x:Value} {c:AV} (h:cv0 W0 μ sz w x c) (hp:pf0 c=true):cv0 W0 μ' sz' w x c:=by
 cases c with
 | one c=>exact cc.free h hp
 | agg cs=>obtain ⟨l,rfl,hl⟩:=h;exact ⟨l,rfl,hl.map fun a b hb hh=>hh.free (List.all_eq_true.1 hp b hb)⟩
 | tup l=>exact h
 | junk=>trivial
theorem cv.free {W0:World} {μ μ':Nat→Nat×Nat} {sz sz':Nat→Nat} {w:World} {x:Value} {c:AV} (h:cv W0 μ sz w x c) (hp:pf c=true):cv W0 μ' sz' w x c:=by
 cases c with
 | one c=>exact cc.free h hp
 | agg cs=>exact cv0.free (c:= .agg cs) h hp
 | tup l=>obtain ⟨vs,rfl,hl⟩:=h;exact ⟨vs,rfl,hl.map fun a b hb hh=>hh.free (List.all_eq_true.1 hp b hb)⟩
 | junk=>trivial
def Af (c d:C):Prop:= ∀(W0:World) (μ:Nat→Nat×Nat) (sz:Nat→Nat) (w:World) (x:Value),cc W0 μ sz w x c→cc W0 μ sz w x d
def Ent (a b:AV):Prop:= ∀(W0:World) (μ:Nat→Nat×Nat) (sz:Nat→Nat) (w:World) (x:Value),cv W0 μ sz w x a→cv W0 μ sz w x b
theorem Af.same {c:C} :Af c c:=fun _ _ _ _ _ h=>h
theorem Ent.same {a:AV} :Ent a a:=fun _ _ _ _ _ h=>h
theorem Ent.trans {a b c:AV} (h:Ent a b) (k:Ent b c):Ent a c:=fun _ _ _ _ _ hh=>k _ _ _ _ _ (h _ _ _ _ _ hh)
theorem Af.q {x y:Rat} {j k i:Nat} (h:x=y) (hj:j≤k):Af (.q x j i) (.q y k i):=by
 subst h
 intro W0 μ sz w v hh
 match i with
 | 0=>exact ⟨hh.1,Nat.zero_le _⟩
 | 1=>exact ⟨hh.1,Nat.le_trans hh.2 hj⟩
 | _+2=>exact ⟨hh.1,Nat.le_trans hh.2 hj⟩
theorem Af.z0 {k:Nat} :Af (.v (.bool false)) (.q 0 k 0):=fun _ _ _ _ _ h=>⟨h.trans (by simp),Nat.zero_le _⟩
theorem O8 (w:World):Rd w (.slice none 0 0) []:=⟨none,0,rfl,Yu _,Nat.zero_le _,fun x hx=>(by cases hx),fun h=>absurd rfl h⟩
theorem Af.z1 {k:Nat} :Af (.v (.slice none 0 0)) (.q 0 k 1):=fun _ _ _ w x h=>by
 have h:x= .slice none 0 0:=h
 subst h
 have e:toL (Rat.num 0).natAbs= []:=by simp [toL]
 exact ⟨by rw [e];exact O8 w,by rw [e];exact Nat.zero_le _⟩
theorem Af.z2 {k:Nat} :Af (.v (.slice none 0 0)) (.q 0 k 2):=fun _ _ _ w x h=>by
 have h:x= .slice none 0 0:=h
 subst h
 have e:toL (JW 0)= []:=by simp [JW,toL]
 exact ⟨by rw [e];exact O8 w,by rw [e];exact Nat.zero_le _⟩
inductive EntL:List C→List C→Prop
 | nil:EntL [] []
 | cons {c d:C} {l m:List C} (h:Af c d) (hl:EntL l m):EntL (c::l) (d::m)
theorem EntL.len {l m:List C} (h:EntL l m):l.length=m.length:=by
 induction h with
 | nil=>rfl
 | cons _ _ ih=>simp [ih]
theorem EntL.get {l m:List C} (h:EntL l m): ∀(i:Nat) c d,l[i]?=some c→m[i]?=some d→Af c d:=by
 induction h with
 | nil=>intro i c d h;simp at h
 | cons h _ ih=>
   intro i c d hc hd
   cases i with
   | zero=>simp at hc hd;subst hc;subst hd;exact h
   | succ i=>exact ih i c d (by simpa using hc) (by simpa using hd)
theorem Ent.agg {l m:List C} (h:EntL l m):Ent (.agg l) (.agg m):=fun W0 μ sz w x hh=>by
 obtain ⟨vs,rfl,hv⟩:=hh
 refine ⟨vs,rfl,hv.1.trans h.len,fun i a d ha hd=>?_⟩
 have hi:i<l.length:=by rw [h.len];exact (List.getElem?_eq_some_iff.1 hd).1
 exact h.get i _ d (Yv hi) hd _ _ _ _ _ (hv.2 i a _ ha (Yv hi))
theorem Ent.one {c d:C} (h:Af c d):Ent (.one c) (.one d):=fun W0 μ sz w x hh=>h _ _ _ _ _ hh
inductive Ents:List AV→List AV→Prop
 | nil:Ents [] []
 | cons {a b:AV} {l m:List AV} (h:Ent a b) (hl:Ents l m):Ents (a::l) (b::m)
theorem Ents.all2 {W0:World} {μ:Nat→Nat×Nat} {sz:Nat→Nat} {w:World} {as bs:List AV} (h:Ents as bs): ∀ {vs:List Value},B5 (cv W0 μ sz w) vs as→B5 (cv W0 μ sz w) vs bs:=by
 induction h with
 | nil=>exact fun hv=>hv
 | cons h _ ih=>
   intro vs hv
   cases vs with
   | nil=>have:=hv.1;simp at this
   | cons v vs=>
     have h2:=ih (vs:=vs) ⟨by have:=hv.1;simpa using this,fun i a b ha hb=>hv.2 (i+1) a b (by simpa using ha) (by simpa using hb)⟩
     refine ⟨by have:=h2.1;simp [this],fun i a b ha hb=>?_⟩
     cases i with
     | zero=>simp at ha hb;subst ha;subst hb;exact h _ _ _ _ _ (hv.2 0 _ _ rfl rfl)
     | succ i=>exact h2.2 i a b (by simpa using ha) (by simpa using hb)
structure Gr (W0 w W' w':World):Prop where
 ext:Ext W0 W'
 fr:Fr W' w'
 new: ∀g,alive W' g→alive W0 g∨w.heap.size≤g
theorem Gr.of_kp {W0 w w':World} (h:Fr W0 w) (k:Kp w w'):Gr W0 w W0 w':=⟨.refl _,h.trans (.of_kp k),fun _ h=> .inl h⟩
def C7 (P:Program) (A:World→Prop) (f:FuncId) (args:List AV) (bs:List (Nat×List C×List C)) (ns:List (Nat×List C)) (R:AV):Prop:=
 ∀(W0 w:World) (μ:Nat→Nat×Nat) (sz:Nat→Nat) (vs:List Value),A W0→Fr W0 w→
  (∀p∈bs,sz p.1=p.2.1.length∧p.2.1≠ []∧ ¬alive W0 (μ p.1).1∧EG W0 μ sz w p.1 p.2.1)→(∀p∈bs,∀q∈bs,(μ p.1).1=(μ q.1).1→p.1=q.1)→(∀q∈ns,sz q.1=0)→B5 (cv W0 μ sz w) vs args→
  Calls P f vs.toArray w fun e w'=> ∃r μ' W',e= .returned r∧Kd (fun g=> ∃p∈bs,g=(μ p.1).1) w w'∧Gr W0 w W' w'∧(∀k,(∀q∈ns,q.1≠k)→μ' k=μ k)∧cv W' μ' (alZ sz ns) w' r R∧(∀p∈bs,EG W' μ' (alZ sz ns) w' p.1 p.2.2)∧
   (∀q∈ns,w.heap.size≤(μ' q.1).1∧ ¬alive W' (μ' q.1).1∧EG W' μ' (alZ sz ns) w' q.1 q.2)∧ ∀p∈ns,∀q∈ns,(μ' p.1).1=(μ' q.1).1→p.1=q.1
def BJ (P:Program) (A:World→Prop) (f:FuncId) (args:List AV) (bs:List (Nat×List C×List C)) (R:AV):Prop:=
 ∀(W0 w:World) (μ:Nat→Nat×Nat) (sz:Nat→Nat) (vs:List Value),A W0→Fr W0 w→
  (∀p∈bs,sz p.1=p.2.1.length∧p.2.1≠ []∧ ¬alive W0 (μ p.1).1∧EG W0 μ sz w p.1 p.2.1)→(∀p∈bs,∀q∈bs,(μ p.1).1=(μ q.1).1→p.1=q.1)→B5 (cv W0 μ sz w) vs args→
  Calls P f vs.toArray w fun e w'=> ∃r W',e= .returned r∧Kd (fun g=> ∃p∈bs,g=(μ p.1).1) w w'∧Gr W0 w W' w'∧cv W' μ sz w' r R∧ ∀p∈bs,EG W' μ sz w' p.1 p.2.2
theorem BJ.g {P:Program} {A:World→Prop} {f:FuncId} {args:List AV} {bs:List (Nat×List C×List C)} {R:AV} (h:BJ P A f args bs R):C7 P A f args bs [] R:=
 fun W0 w μ sz vs hA hk hb hi _ hv=>(h W0 w μ sz vs hA hk hb hi hv).mono fun e w' ⟨r,W',h1,h2,h5,h3,h4⟩=>⟨r,μ,W',h1,h2,h5,fun _ _=>rfl,h3,h4,fun q hq=>(by cases hq),fun p hp=>(by cases hp)⟩
theorem C7.m {P:Program} {A:World→Prop} {f:FuncId} {args:List AV} {bs:List (Nat×List C×List C)} {R:AV} (h:C7 P A f args bs [] R):BJ P A f args bs R:=
 fun W0 w μ sz vs hA hk hb hi hv=>(h W0 w μ sz vs hA hk hb hi (fun q hq=>by cases hq) hv).mono fun e w' ⟨r,μ',W',h1,h2,h6,h3,h4,h5,_⟩=>by
  obtain rfl:μ'=μ:=funext fun k=>h3 k fun q hq=>by cases hq
  exact ⟨r,W',h1,h2,h6,h4,h5⟩
def Ctr (P:Program) (A:World→Prop) (f:FuncId) (args:List AV) (R:AV):Prop:=BJ P A f args [] R
theorem BJ.weak {P:Program} {A:World→Prop} {f:FuncId} {args args':List AV} {bs:List (Nat×List C×List C)} {R R':AV} (h:BJ P A f args bs R) (ha:Ents args' args) (hr:Ent R R'):BJ P A f args' bs R':=
 fun W0 w μ sz vs hA hk hb hi hv=>(h W0 w μ sz vs hA hk hb hi (ha.all2 hv)).mono fun e w' ⟨r,W',h1,h2,h5,h3,h4⟩=>⟨r,W',h1,h2,h5,hr _ _ _ _ _ h3,h4⟩
section
variable {P:Program} {X:Ctx} {ops l:List Oper} {σ σ':St} {es:List Eff}
variable {dst:Option Tmp} {ty:TypeId} {pos:String} {af:Array Edge} {gd:Option (Nat×Bool)} {s:Nat→AV} {z:Nat→Nat}
theorem Sw {A:World→Prop} (hA:A X.W0) {f:FuncId} {as:List AV} {bs:List (Nat×List C×List C)} {ns:List (Nat×List C)} {R:AV} (hc:C7 P A f as bs ns R)
  (hwr: ∀p∈bs,p.2.1.length=p.2.2.length)
  {μ:Nat→Nat×Nat} {a:Act} {w:World} (h:Cn X μ σ a w) (hrd: ∀p∈bs,∀(i:Nat) c,p.2.1[i]?=some c→σ.m p.1 i=c) (hz: ∀p∈bs,σ.sz p.1=p.2.1.length∧p.2.1≠ []) (hnd:(bs.map (·.1)).Nodup) (hal:Ki σ.sz ns) {vs:List Value} (hv:B5 (cv X.W0 μ σ.sz w) vs as):
  Calls P f vs.toArray w fun e w'=> ∃r μ' W',e= .returned r∧IR X W'∧cv W' μ' (alZ σ.sz ns) w' r R∧Cn (X.at W') μ' ⟨σ.s,wrM σ.m (bs.map (fun p=>(p.1,0,p.2.2))++alR ns),alZ σ.sz ns⟩ a w':=by
 have hlive: ∀p∈bs,σ.sz p.1≠0:=fun p hp=>by
  obtain ⟨h1,h2⟩:=hz p hp
  rw [h1]
  exact fun h0=>h2 (List.eq_nil_of_length_eq_zero h0)
 refine (hc X.W0 w μ σ.sz vs hA h.w0 (fun p hp=>⟨(hz p hp).1,(hz p hp).2,(h.own p.1 (hlive p hp)).1,?_⟩) (fun p hp q hq hpq=>h.inj _ _ (hlive p hp) (hlive q hq) hpq) (fun q hq=>(hal.1 q hq).1) hv).mono ?_
 ·obtain ⟨cs,e,h1,h2,h4,h3⟩:=h.blk p.1 (hlive p hp)
  have hle:p.2.1.length≤cs.size:=by rw [←(hz p hp).1];exact h4
  have key: ∀(o:Nat) x c,cs[o]?=some x→p.2.1[o]?=some c→cc X.W0 μ σ.sz w x c∧nl c:=fun o x c hx hoc=>by
   obtain ⟨h4,h5⟩:=(h3 o x hx).2 (by rw [(hz p hp).1];exact (List.getElem?_eq_some_iff.1 hoc).1)
   rw [hrd p hp o c hoc] at h4 h5
   exact ⟨h4,h5⟩
  refine ⟨cs,e,h1,h2,hle,fun o x hx=>(h3 o x hx).1,fun o x c hx hc=>(key o x c hx hc).1,fun c hcm=>?_⟩
  obtain ⟨o,ho,rfl⟩:=List.mem_iff_getElem.1 hcm
  exact (key o _ _ (Array.getElem?_eq_getElem (show o<cs.size by omega)) (Yv ho)).2
 ·rintro e w' ⟨r,μ',W',rfl,hkd,hgr,hμ,hr,hb,hn,hni⟩
  refine ⟨r,μ',W',rfl,⟨hgr.ext,fun g hg=>(hgr.new g hg).imp_right fun h1=>Nat.le_trans h.kd.size h1⟩,hr,?_⟩
  have he:=hgr.ext
  have kl:Kl w w':=⟨hkd.size,fun g c e' fz hg hu=>by
   refine hkd.block g (Array.getElem?_eq_some_iff.1 hg).1 ?_
   rintro ⟨p,hp,rfl⟩
   obtain ⟨cs,e,h1,h2,_,h3⟩:=h.blk p.1 (hlive p hp)
   rw [h1] at hg
   cases hg
   obtain ⟨i,n,hi⟩:=hu
   exact (h3 i _ hi).1.1 n rfl⟩
  have out: ∀i,σ.sz i≠0→ ∀q∈ns,q.1≠i:=fun i hi q hq hqi=>hi (by rw [←hqi];exact (hal.1 q hq).1)
  have ext: ∀i,σ.sz i≠0→μ' i=μ i∧alZ σ.sz ns i≠0:=fun i hi=>⟨hμ i (out i hi),by rw [Eg (out i hi)];exact hi⟩
  have old: ∀i,σ.sz i≠0→(μ i).1<w.heap.size:=fun i hi=>by
   obtain ⟨cs,e,h1,_⟩:=h.blk i hi
   exact (Array.getElem?_eq_some_iff.1 h1).1
  have cases': ∀k,alZ σ.sz ns k≠0→(∃q∈ns,q.1=k∧alZ σ.sz ns k=q.2.length)∨(σ.sz k≠0∧μ' k=μ k∧alZ σ.sz ns k=σ.sz k∧ ∀q∈ns,q.1≠k):=fun k hk=>by
   by_cases hin: ∃q∈ns,q.1=k
   ·obtain ⟨q,hq,rfl⟩:=hin
    exact .inl ⟨q,hq,rfl,Mn hal.2 hq⟩
   ·have ho: ∀q∈ns,q.1≠k:=fun q hq hh=>hin ⟨q,hq,hh⟩
    rw [Eg ho] at hk
    exact .inr ⟨hk,hμ k ho,Eg ho,ho⟩
  have happ:wrM σ.m (bs.map (fun p=>(p.1,0,p.2.2))++alR ns)=wrM (wrM σ.m (alR (bs.map fun p=>(p.1,p.2.2)))) (alR ns):=by
   have: ∀(a b:List (Nat×Nat×List C)) (m:Nat→Nat→C),wrM m (a++b)=wrM (wrM m a) b:=by
    intro a
    induction a with
    | nil=>intro b m;rfl
    | cons p a ih=>intro b m;exact ih b _
   rw [this]
   congr 2
   unfold alR
   rw [List.map_map]
   rfl
  refine ⟨hgr.fr,⟨hkd.os.trans h.kd.os,hkd.tape.trans h.kd.tape,hkd.output.trans h.kd.output,Nat.le_trans h.kd.size hkd.size,fun g hg hD=>?_⟩,h.defers,h.size,fun t=>(h.slot t).mono kl ext he,fun i hi=>?_,fun k k' hk hk' he=>?_,fun k hk=>?_,fun k hk=>?_⟩
  ·rw [hkd.block g (Nat.lt_of_lt_of_le hg h.kd.size) (by
    rintro ⟨p,hp,rfl⟩
    rcases (h.own p.1 (hlive p hp)).2 with h1|h1
    ·have h2:(μ p.1).1<X.base.heap.size:=hg
     omega
    ·exact hD h1)]
   exact h.kd.block g hg hD
  ·rw [happ]
   rcases cases' i hi with ⟨q,hq,rfl,hl⟩|⟨h1,h2,h3,h4⟩
   ·obtain ⟨ca,e,b1,b2,b3,b4,b5,b6⟩:=(hn q hq).2.2
    refine ⟨ca,e,b1,b2,?_,fun o x hx=>⟨b4 o x hx,fun ho=>?_⟩⟩
    ·show alZ σ.sz ns q.1≤_
     rw [hl];exact b3
    ·replace ho:o<alZ σ.sz ns q.1:=ho
     rw [hl] at ho
     have hc:=Yv ho
     show cc _ _ _ _ _ (wrM _ (alR ns) q.1 o)∧nl (wrM _ (alR ns) q.1 o)
     rw [Ll hc hal.2 hq]
     exact ⟨b5 o x _ hx hc,b6 _ (List.getElem_mem ho)⟩
   ·by_cases hin: ∃p∈bs,p.1=i
    ·obtain ⟨p,hp,rfl⟩:=hin
     obtain ⟨ca,e,b1,b2,b3,b4,b5,b6⟩:=hb p hp
     refine ⟨ca,e,b1,b2,?_,fun o x hx=>⟨b4 o x hx,fun ho=>?_⟩⟩
     ·show alZ σ.sz ns p.1≤_
      rw [h3,(hz p hp).1,hwr p hp];exact b3
     ·replace ho:o<alZ σ.sz ns p.1:=ho
      rw [h3,(hz p hp).1,hwr p hp] at ho
      have hc:=Yv ho
      show cc _ _ _ _ _ (wrM _ (alR ns) p.1 o)∧nl (wrM _ (alR ns) p.1 o)
      rw [Gm h4,Ll (p:=(p.1,p.2.2)) hc (by simpa [List.map_map,Function.comp_def] using hnd) (List.mem_map.2 ⟨p,hp,rfl⟩)]
      exact ⟨b5 o x _ hx hc,b6 _ (List.getElem_mem ho)⟩
    ·obtain ⟨ca,e,b1,b2,b3,b4⟩:=h.blk i h1
     refine ⟨ca,e,?_,by rw [h2];exact b2,by show alZ σ.sz ns i≤_;rw [h3];exact b3,fun o x hx=>?_⟩
     ·rw [h2,hkd.block _ (old i h1) (by
       rintro ⟨p,hp,hpi⟩
       exact hin ⟨p,hp,(h.inj i p.1 h1 (hlive p hp) hpi).symm⟩)]
      exact b1
     ·show noL x∧(o<alZ σ.sz ns i→cc _ _ _ _ _ (wrM _ (alR ns) i o)∧nl (wrM _ (alR ns) i o))
      rw [Gm h4,Gm (fun q hq hh=>by
       obtain ⟨p,hp,rfl⟩:=List.mem_map.1 hq
       exact hin ⟨p,hp,hh⟩),h3]
      exact Ek (b4 o x hx) kl ext he
  ·rcases cases' k hk with ⟨q,hq,rfl,_⟩|⟨h1,h2,_,_⟩<;>rcases cases' k' hk' with ⟨q',hq',rfl,_⟩|⟨h1',h2',_,_⟩
   ·exact hni q hq q' hq' he
   ·rw [h2'] at he
    have:=(hn q hq).1
    have:=old k' h1'
    omega
   ·rw [h2] at he
    have:=(hn q' hq').1
    have:=old k h1
    omega
   ·rw [h2,h2'] at he
    exact h.inj k k' h1 h1' he
  ·rcases cases' k hk with ⟨q,hq,rfl,_⟩|⟨h1,h2,_,_⟩
   ·have:=(hn q hq).1
    exact ⟨(hn q hq).2.1,.inl (Nat.le_trans h.kd.size this)⟩
   ·rw [h2]
    refine ⟨fun ha=>?_,(h.own k h1).2⟩
    rcases hgr.new _ ha with h5|h5
    ·exact (h.own k h1).1 h5
    ·have:=old k h1
     omega
  ·have:=h.par k hk
   obtain ⟨h1,h2⟩:=ext k this.2
   exact ⟨h1.trans this.1,h2⟩
theorem Mt: ∀ {ro:List (Nat×List C)} {m:Nat→Nat→C},(∀p∈ro,∀(i:Nat) c,p.2[i]?=some c→m p.1 i=c)→wrM m (ro.map fun p=>(p.1,0,p.2))=m
 | [],_,_=>rfl
 | p::ro,m,h=>by
   show wrM (upd m p.1 (laid (m p.1) 0 p.2)) _=m
   have h0:upd m p.1 (laid (m p.1) 0 p.2)=m:=by
    funext k
    by_cases hk:k=p.1
    ·subst hk
     rw [AI]
     funext o
     rw [Qw]
     cases hc:(if 0≤o then p.2[o-0]? else none) with
     | none=>rfl
     | some c=>
       rw [if_pos (Nat.zero_le _),Nat.sub_zero] at hc
       exact (h p List.mem_cons_self o c hc).symm
    ·rw [Cj hk]
   rw [h0]
   exact Mt fun q hq=>h q (List.mem_cons_of_mem _ hq)
theorem PT (m:Nat→Nat→C): ∀(a b:List (Nat×Nat×List C)),wrM m (a++b)=wrM (wrM m a) b
 | [],_=>rfl
 | p::a,b=>PT (upd m p.1 (laid (m p.1) p.2.1 p.2.2)) a b
def BA (s:Nat→AV):Callee→Option (FuncId×List AV)
 | .value x=>match evC s x with
   | .one (.fn f caps)=>some (f,caps.map fun p=> .one (.ptr p.1 p.2))
   | _=>none
 | _=>none
def EH (σz:Nat→Nat) (n:Nat) (p:Nat×List C):Bool:=Nat.beq (σz p.1) p.2.length&&Nat.blt 0 p.2.length&&Nat.beq n p.2.length
def KY (k:Nat):AV→Bool
 | .one (.ptr k' _)=>Nat.beq k k'
 | _=>false
def JL (k:Nat):C→Bool
 | .ptr k' _=>Nat.beq k k'
 | .gl k' len _=>Nat.beq k k'&&Nat.blt 0 len
 | .sx k' _ _ _ _=>Nat.beq k k'
 | .fn _ caps=>caps.any fun p=>Nat.beq k p.1
 | _=>false
def EO (k:Nat):AV→Bool
 | .one c=>JL k c
 | .agg cs=>cs.any (JL k)
 | _=>false
theorem Ii {W0:World} {μ:Nat→Nat×Nat} {sz:Nat→Nat} {w:World} {x:Value} {c:C} {k:Nat} (h:cc W0 μ sz w x c) (hm:JL k c=true):sz k≠0:=by
 cases c with
 | ptr k' o=>rw [Nat.eq_of_beq_eq_true (show Nat.beq k k'=true from hm)];exact h.2
 | gl k' len es=>
   have hm:(Nat.beq k k'&&Nat.blt 0 len)=true:=hm
   rw [Bool.and_eq_true] at hm
   obtain ⟨ao,c,_,_,_,h4⟩:=h
   rw [Nat.eq_of_beq_eq_true hm.1]
   have h0:0<len:=by simpa using hm.2
   exact (h4 (by omega)).2.2
 | fn f caps=>
   obtain ⟨p,hp,hb⟩:=List.any_eq_true.1 (show (caps.any fun p=>Nat.beq k p.1)=true from hm)
   rw [Nat.eq_of_beq_eq_true hb]
   exact h.2 p hp
 | sx k' o l c e=>rw [Nat.eq_of_beq_eq_true (show Nat.beq k k'=true from hm)];exact h.2.2.2
 | _=>cases hm
theorem Pv {W0:World} {μ:Nat→Nat×Nat} {sz:Nat→Nat} {w:World} {x:Value} {a:AV} {k:Nat} (h:cv W0 μ sz w x a) (hm:EO k a=true):sz k≠0:=by
 cases a with
 | one c=>exact Ii (c:=c) h hm
 | agg cs=>
   obtain ⟨l,_,hl⟩:=h
   obtain ⟨c,hc,hm⟩:=List.any_eq_true.1 (show cs.any (JL k)=true from hm)
   obtain ⟨i,hi,rfl⟩:=List.mem_iff_getElem.1 hc
   exact Ii (hl.2 i _ _ (Yv (by rw [hl.1];exact hi)) (Yv hi)) hm
 | tup l=>cases hm
 | junk=>cases hm
def E7 (as:List AV):List (Nat×List C)→List (Nat×List C)→Bool
 | _,[]=>true
 | done,p::r=>(as.any (EO p.1) || done.any fun q=>q.2.any (JL p.1))&&E7 as (p::done) r
theorem Fh {A:World→Prop} [MonoA A] (hA:A X.W0) {c:Call} {f:FuncId} [hF:Fun P f] {as caps:List AV} {ro:List (Nat×List C)} {rw:List (Nat×List C×List C)} {ns:List (Nat×List C)} {R:AV} {ord:List (Nat×List C)} (hd: ∀t,dst=some t→t<X.n)
  (hcl:BA s c.callee=some (f,caps)) (has:c.args.toList.map (evC s)++caps=as) (hc:C7 P A f as (ro.map (fun p=>(p.1,p.2,p.2))++rw) ns R) (hro:ro.all (fun p=>EH z p.2.length p)=true) (hrw:rw.all (fun p=>EH z p.2.2.length (p.1,p.2.1))=true)
  (hnd:(ro.map (·.1)++rw.map (·.1)).Nodup) (hch:E7 as [] ord=true) (ho1: ∀p∈ro,p∈ord) (ho2: ∀p∈rw,(p.1,p.2.1)∈ord) (ho3: ∀q∈ord,q∈ro∨ ∃a,(q.1,q.2,a)∈rw):
  Sim P X ⟨dst,.call c,ty,pos,af,gd⟩ s z ⟨R,ro.map (fun p=>(p.1,0,p.2))++rw.map (fun p=>(p.1,0,p.2.1)),rw.map (fun p=>(p.1,0,p.2.2)),ns⟩:=by
 refine Sim.of1 fun W hW=>?_
 replace hd: ∀t,dst=some t→t<(X.at W).n:=hd
 replace hA:A (X.at W).W0:=MonoA.up hA hW
 clear hW
 generalize X.at W=X at hd hA⊢
 intro σ hs hsz hrd hal a w hcn K Q hK
 obtain ⟨μ,hcn⟩:=hcn
 obtain ⟨callee,args,argTypes⟩:=c
 obtain ⟨al,rfl⟩: ∃al:List Operand,args=al.toArray:=⟨args.toList,by simp⟩
 cases callee with
 | invoke r m=>simp [BA] at hcl
 | builtin b=>simp [BA] at hcl
 | value fx=>
   have hfx:=hcn.ev fx
   replace hfx:=C5 (o:=⟨dst,.call ⟨.value fx,al.toArray,argTypes⟩,ty,pos,af,gd⟩) hs (by simp [Op.operands,Call.operands]) hfx
   simp only [BA] at hcl
   split at hcl
   ·rename_i f' caps' hev
    simp only [Option.some.injEq,Prod.mk.injEq] at hcl
    obtain ⟨rfl,rfl⟩:=hcl
    rw [hev] at hfx
    obtain ⟨hf1,hf2⟩:=hfx
    obtain ⟨vs,hvs⟩: ∃vs:List Value,vs=al.map a.eval++caps'.map fun p=>Value.pointer (some ⟨(μ p.1).1,p.2,none⟩):=⟨_,rfl⟩
    have hv:B5 (cv X.W0 μ σ.sz w) vs as:=by
     subst hvs
     rw [←has]
     refine ⟨by simp,fun i v b hv hb=>?_⟩
     simp only [List.getElem?_append,List.length_map] at hv hb
     split at hv
     ·rename_i hi
      rw [if_pos hi] at hb
      simp only [List.getElem?_map,Option.map_eq_some_iff] at hv hb
      obtain ⟨x,hx,rfl⟩:=hv
      obtain ⟨y,hy,rfl⟩:=hb
      rw [hx] at hy
      cases hy
      have:=hcn.ev x
      replace this:=C5 (o:=⟨dst,.call ⟨.value fx,al.toArray,argTypes⟩,ty,pos,af,gd⟩) hs (by simp [Op.operands,Call.operands];exact .inr (List.mem_of_getElem? hx)) this
      exact this
     ·rename_i hi
      rw [if_neg (by simpa using hi)] at hb
      simp only [List.getElem?_map,Option.map_eq_some_iff] at hv hb
      obtain ⟨x,hx,rfl⟩:=hv
      obtain ⟨y,hy,rfl⟩:=hb
      rw [hx] at hy
      cases hy
      exact ⟨rfl,hf2 _ (List.mem_of_getElem? hx)⟩
    have hz1: ∀p∈ro.map (fun p=>(p.1,p.2,p.2))++rw,z p.1=p.2.1.length∧p.2.1≠ []∧p.2.1.length=p.2.2.length:=fun p hp=>by
     rcases List.mem_append.1 hp with h|h
     ·obtain ⟨q,hq,rfl⟩:=List.mem_map.1 h
      have:=List.all_eq_true.1 hro q hq
      simp only [EH,Bool.and_eq_true,Nat.beq_eq,Nat.blt_eq] at this
      exact ⟨this.1.1,(by intro h0;replace h0:q.2= []:=h0;rw [h0] at this;simp at this),rfl⟩
     ·have:=List.all_eq_true.1 hrw p h
      simp only [EH,Bool.and_eq_true,Nat.beq_eq,Nat.blt_eq] at this
      exact ⟨this.1.1,(by intro h0;rw [h0] at this;simp at this),this.2.symm⟩
    have hrd1: ∀p∈ro.map (fun p=>(p.1,p.2,p.2))++rw,∀(i:Nat) c,p.2.1[i]?=some c→σ.m p.1 i=c:=fun p hp i c hi=>by
     have:(p.1,0,p.2.1)∈ro.map (fun p=>(p.1,0,p.2))++rw.map (fun p=>(p.1,0,p.2.1)):=by
      rcases List.mem_append.1 hp with h|h
      ·obtain ⟨q,hq,rfl⟩:=List.mem_map.1 h
       exact List.mem_append.2 (.inl (List.mem_map.2 ⟨q,hq,rfl⟩))
      ·exact List.mem_append.2 (.inr (List.mem_map.2 ⟨p,h,rfl⟩))
     have h2:=hrd _ this i c hi
     simpa using h2
    have hord: ∀q∈ord,∃b,(q.1,q.2,b)∈ro.map (fun p=>(p.1,p.2,p.2))++rw:=fun q hq=>by
     rcases ho3 q hq with h|⟨b,h⟩
     ·exact ⟨_,List.mem_append.2 (.inl (List.mem_map.2 ⟨q,h,rfl⟩))⟩
     ·exact ⟨_,List.mem_append.2 (.inr h)⟩
    have live1: ∀q∈ord,σ.sz q.1≠0→σ.sz q.1=z q.1:=fun q hq h4=>by
     obtain ⟨b,hb⟩:=hord q hq
     obtain ⟨h5,h6,_⟩:=hz1 _ hb
     rcases hsz q.1 (by rw [h5];exact fun h0=>h6 (List.eq_nil_of_length_eq_zero h0)) with h|h
     ·exact absurd h h4
     ·exact h
    have live2: ∀(todo done:List (Nat×List C)),E7 as done todo=true→(∀q∈todo,q∈ord)→(∀q∈done,q∈ord∧σ.sz q.1≠0)→ ∀q∈todo,σ.sz q.1≠0:=by
     intro todo
     induction todo with
     | nil=>intro done _ _ _ q hq;cases hq
     | cons p todo ih=>
       intro done h1 h2 h3
       rw [show E7 as done (p::todo)=((as.any (EO p.1) || done.any fun q=>q.2.any (JL p.1))&&E7 as (p::done) todo) from rfl,Bool.and_eq_true,Bool.or_eq_true] at h1
       have hp:σ.sz p.1≠0:=by
        rcases h1.1 with h4|h4
        ·obtain ⟨x,hx,h5⟩:=List.any_eq_true.1 h4
         obtain ⟨i,hi,rfl⟩:=List.mem_iff_getElem.1 hx
         exact Pv (hv.2 i _ _ (Yv (by rw [hv.1];exact hi)) (Yv hi)) h5
        ·obtain ⟨q,hq,h5⟩:=List.any_eq_true.1 h4
         obtain ⟨c,hc',h6⟩:=List.any_eq_true.1 h5
         obtain ⟨o,ho,rfl⟩:=List.mem_iff_getElem.1 hc'
         obtain ⟨hqo,hql⟩:=h3 q hq
         obtain ⟨b,hb⟩:=hord q hqo
         obtain ⟨ca,e,b1,b2,b3,b4⟩:=hcn.blk q.1 hql
         have hlen:σ.sz q.1=q.2.length:=(live1 q hqo hql).trans (hz1 _ hb).1
         have hoc:o<ca.size:=by omega
         have h7:=((b4 o _ (Array.getElem?_eq_getElem hoc)).2 (by omega)).1
         rw [hrd1 _ hb o _ (Yv ho)] at h7
         exact Ii h7 h6
       intro q hq
       rcases List.mem_cons.1 hq with rfl|hq
       ·exact hp
       ·exact ih (p::done) h1.2 (fun q hq=>h2 q (List.mem_cons_of_mem _ hq)) (fun q hq=>by
         rcases List.mem_cons.1 hq with rfl|hq
         ·exact ⟨h2 _ List.mem_cons_self,hp⟩
         ·exact h3 q hq) q hq
    have hlive: ∀p∈ro.map (fun p=>(p.1,p.2,p.2))++rw,σ.sz p.1=z p.1:=fun p hp=>by
     have hm:(p.1,p.2.1)∈ord:=by
      rcases List.mem_append.1 hp with h|h
      ·obtain ⟨q,hq,rfl⟩:=List.mem_map.1 h
       exact ho1 q hq
      ·exact ho2 p h
     exact live1 _ hm (live2 ord [] hch (fun q hq=>hq) (fun q hq=>by cases hq) _ hm)
    have hcalls:=Sw hA hc (fun p hp=>(hz1 p hp).2.2) hcn hrd1 (fun p hp=>⟨(hlive p hp).trans (hz1 p hp).1,(hz1 p hp).2.1⟩) (by simpa [List.map_map,Function.comp_def] using hnd) hal hv
    have hrun:(execOp a.eval ⟨dst,.call ⟨.value fx,al.toArray,argTypes⟩,ty,pos,af,gd⟩).run P w= .ok (.enter f' vs.toArray) w:=by
     have:=hF.run vs.toArray w
     simp [execOp,resolve,hf1,Deferred.ofValue,invoke,hvs] at this⊢
     exact this
    unfold Oper.wp
    rw [hrun]
    refine Calls.mono hcalls ?_
    rintro e w' ⟨r,μ',W',rfl,hG,hr,hcn2⟩
    refine hK _ _ ⟨W',hG,μ',?_⟩
    have hmeq:wrM σ.m (((ro.map (fun p=>(p.1,p.2,p.2))++rw).map fun p=>(p.1,0,p.2.2))++alR ns)=wrM σ.m ((rw.map fun p=>(p.1,0,p.2.2))++alR ns):=by
     rw [List.map_append,List.map_map,List.append_assoc,PT]
     rw [show wrM σ.m (ro.map ((fun p:Nat×List C×List C=>(p.1,0,p.2.2))∘fun p=>(p.1,p.2,p.2)))=σ.m from Mt fun p hp i c hi=>by
      exact hrd1 (p.1,p.2,p.2) (List.mem_append.2 (.inl (List.mem_map.2 ⟨p,hp,rfl⟩))) i c hi]
    rw [hmeq] at hcn2
    exact Ck hcn2 (d:=dst) hd (v:=r) (av:=R) hr
   ·cases hcl
theorem MZ {A:World→Prop} [MonoA A] (hA:A X.W0) {c:Call} {f:FuncId} [hF:Fun P f] {as caps:List AV} {ro:List (Nat×List C)} {rw:List (Nat×List C×List C)} {R:AV} (hd: ∀t,dst=some t→t<X.n)
  (hcl:BA s c.callee=some (f,caps)) (has:c.args.toList.map (evC s)++caps=as) (hc:BJ P A f as (ro.map (fun p=>(p.1,p.2,p.2))++rw) R) (hro:ro.all (fun p=>EH z p.2.length p)=true) (hrw:rw.all (fun p=>EH z p.2.2.length (p.1,p.2.1))=true)
  (hnd:(ro.map (·.1)++rw.map (·.1)).Nodup) (hpt:((ro.map (·.1)++rw.map (·.1)).all fun k=>as.any (KY k))=true):
  Sim P X ⟨dst,.call c,ty,pos,af,gd⟩ s z ⟨R,ro.map (fun p=>(p.1,0,p.2))++rw.map (fun p=>(p.1,0,p.2.1)),rw.map (fun p=>(p.1,0,p.2.2)),[]⟩:=by
 refine Fh hA (ord:=ro++rw.map fun p=>(p.1,p.2.1)) hd hcl has hc.g hro hrw hnd ?_ (fun p hp=>List.mem_append.2 (.inl hp)) (fun p hp=>List.mem_append.2 (.inr (List.mem_map.2 ⟨p,hp,rfl⟩))) (fun q hq=>?_)
 ·have key: ∀(l done:List (Nat×List C)),(∀p∈l,as.any (KY p.1)=true)→E7 as done l=true:=by
   intro l
   induction l with
   | nil=>intro _ _;rfl
   | cons p l ih=>
     intro done h
     rw [show E7 as done (p::l)=((as.any (EO p.1) || done.any fun q=>q.2.any (JL p.1))&&E7 as (p::done) l) from rfl,Bool.and_eq_true,Bool.or_eq_true]
     refine ⟨.inl ?_,ih _ fun q hq=>h q (List.mem_cons_of_mem _ hq)⟩
     obtain ⟨x,hx,h2⟩:=List.any_eq_true.1 (h p List.mem_cons_self)
     refine List.any_eq_true.2 ⟨x,hx,?_⟩
     unfold KY at h2
     split at h2
     ·exact h2
     ·cases h2
  refine key _ _ fun p hp=>?_
  refine List.all_eq_true.1 hpt p.1 ?_
  rcases List.mem_append.1 hp with h|h
  ·exact List.mem_append.2 (.inl (List.mem_map.2 ⟨p,h,rfl⟩))
  ·obtain ⟨q,hq,rfl⟩:=List.mem_map.1 h
   exact List.mem_append.2 (.inr (List.mem_map.2 ⟨q,hq,rfl⟩))
 ·rcases List.mem_append.1 hq with h|h
  ·exact .inl h
  ·obtain ⟨p,hp,rfl⟩:=List.mem_map.1 h
   exact .inr ⟨_,hp⟩
end
end Go.Proofs.YtfineedhebhpaaaGreatDoor
