/-
  Several texts in one: El, Em, En, Es.
-/
import Derived.Test.YtemmbphdcgdboaaGreatDoorEx
import Derived.OwnWalk
namespace Go.Proofs.YtemmbphdcgdboaaGreatDoor
open Go.RowKit
set_option linter.unusedVariables false
set_option linter.unusedSimpArgs false
theorem fin_oneM {P:Program} {r:ResultVar} {R a:AV} {σ:St} {k:Nat} {b c:List C} (h:ResIs P σ r a) (hE:Ent a R) (hz:σ.sz k=c.length) (hm:EntL (rdL (σ.m k) 0 c.length) c) (hn:c.all nlB=true):Fin P [r] [(k,b,c)] R σ:=
 ⟨⟨[a],.cons h .nil,.inl rfl,hE⟩,fun p hp=>by
  obtain rfl:=List.mem_singleton.1 hp
  refine ⟨hz,fun i d hi=>?_⟩
  have hlt:=(List.getElem?_eq_some_iff.1 hi).1
  have h2:=rdL_get (σ.m k) c.length 0 i hlt
  rw [Nat.zero_add] at h2
  exact ⟨hm.get i _ d h2 hi,nlB_ok (List.all_eq_true.1 hn d (List.mem_of_getElem? hi))⟩⟩
theorem fin_ro {P:Program} {r:ResultVar} {R a:AV} {σ:St} {bs:List (Nat×List C×List C)} (h:ResIs P σ r a) (hE:Ent a R) (hb: ∀p∈bs,σ.sz p.1=p.2.2.length∧rdL (σ.m p.1) 0 p.2.2.length=p.2.2∧p.2.2.all nlB=true):Fin P [r] bs R σ:=
 ⟨⟨[a],.cons h .nil,.inl rfl,hE⟩,fun p hp=>by
  obtain ⟨hz,hm,hn⟩:=hb p hp
  refine ⟨hz,fun i d hi=>?_⟩
  have hlt:=(List.getElem?_eq_some_iff.1 hi).1
  have h2:=rdL_get (σ.m p.1) p.2.2.length 0 i hlt
  rw [Nat.zero_add,hm,hi] at h2
  exact ⟨EntC.of_eq (Option.some.inj h2).symm,nlB_ok (List.all_eq_true.1 hn d (List.mem_of_getElem? hi))⟩⟩
theorem binLe {k:IntKind} {a b:Int} {c:Bool} (h:decide (a≤b)=c):binR .leq k a b=some (.bool c):=by rw [←h];rfl
theorem binLt {k:IntKind} {a b:Int} {c:Bool} (h:decide (a<b)=c):binR .lss k a b=some (.bool c):=by rw [←h];rfl
theorem binGt {k:IntKind} {a b:Int} {c:Bool} (h:decide (a>b)=c):binR .gtr k a b=some (.bool c):=by rw [←h];rfl
theorem binGe {k:IntKind} {a b:Int} {c:Bool} (h:decide (a≥b)=c):binR .geq k a b=some (.bool c):=by rw [←h];rfl
theorem binEq {k:IntKind} {a b:Int} {c:Bool} (h:decide (a=b)=c):binR .eql k a b=some (.bool c):=by
 rw [←h]
 show some (Value.bool (a==b))=_
 congr 2
theorem binRem {k:IntKind} {a b:Int} (h:b≠0):binR .rem k a b=some (.int k (a.tmod b)):=if_neg h
theorem binAdd {k:IntKind} {a b c:Int} (h:k.wrap (a+b)=c):binR .add k a b=some (.int k c):=by rw [←h];rfl
theorem binSub {k:IntKind} {a b c:Int} (h:k.wrap (a-b)=c):binR .sub k a b=some (.int k c):=by rw [←h];rfl
def renC (θ:Nat→Nat):C→C
 | .ptr k o=> .ptr (θ k) o
 | .fn f caps=> .fn f (caps.map fun p=>(θ p.1,p.2))
 | c=>c
def renA (θ:Nat→Nat):AV→AV
 | .one c=> .one (renC θ c)
 | .agg cs=> .agg (cs.map (renC θ))
 | a=>a
theorem cc_ren {W0:World} {μ sz:Nat→Nat} {w:World} {x:Value} {θ:Nat→Nat} {c:C} (h:cc W0 μ sz w x (renC θ c)):cc W0 (fun i=>μ (θ i)) (fun i=>sz (θ i)) w x c:=by
 cases c with
 | fn f caps=>
   refine ⟨?_,fun p hp=>h.2 (θ p.1,p.2) (List.mem_map.2 ⟨p,hp,rfl⟩)⟩
   rw [h.1,List.map_map]
   rfl
 | q r j i=>
   match i with
   | 0=>exact h
   | 1=>exact h
   | _+2=>exact h
 | _=>exact h
theorem cv_ren {W0:World} {μ sz:Nat→Nat} {w:World} {x:Value} {θ:Nat→Nat} {a:AV} (hn:notTup a=true) (h:cv W0 μ sz w x (renA θ a)):cv W0 (fun i=>μ (θ i)) (fun i=>sz (θ i)) w x a:=by
 cases a with
 | one c=>exact cc_ren h
 | agg cs=>
   obtain ⟨l,rfl,hl⟩:=h
   refine ⟨l,rfl,by rw [hl.1];simp,fun i a c ha hc=>cc_ren (hl.2 i a _ ha (by rw [List.getElem?_map,hc];rfl))⟩
 | tup l=>cases hn
 | junk=>trivial
theorem blk_free {W0:World} {μ sz μ' sz':Nat→Nat} {w:World} {k k':Nat} {cs:List C} (h:BlkAt W0 μ sz w k cs) (hk:μ' k'=μ k) (hp:cs.all pfC=true):BlkAt W0 μ' sz' w k' cs:=by
 obtain ⟨a,e,h1,h2,h3⟩:=h
 exact ⟨a,e,by rw [hk];exact h1,h2.map fun x c hc hh=>hh.free (List.all_eq_true.1 hp c hc),h3⟩
theorem CtrM.ren {P:Program} {A:World→Prop} {f:FuncId} {args:List AV} {bs:List (Nat×List C×List C)} {R:AV} (h:CtrM P A f args bs R) (θ:Nat→Nat) (hθ: ∀p∈bs,∀q∈bs,θ p.1=θ q.1→p.1=q.1) (hp:(pf R&&bs.all fun p=>p.2.1.all pfC&&p.2.2.all pfC)=true) (ht:args.all notTup=true):
  CtrM P A f (args.map (renA θ)) (bs.map fun p=>(θ p.1,p.2)) R:=by
 intro W0 w μ sz vs hA hk hb hi hv
 simp only [Bool.and_eq_true,List.all_eq_true] at hp
 obtain ⟨hR,hpb⟩:=hp
 have hpa: ∀p∈bs,p.2.1.all pfC=true∧p.2.2.all pfC=true:=fun p hpm=>⟨List.all_eq_true.2 (hpb p hpm).1,List.all_eq_true.2 (hpb p hpm).2⟩
 refine (h W0 w (fun i=>μ (θ i)) (fun i=>sz (θ i)) vs hA hk (fun p hpm=>?_) (fun p hpm q hqm hpq=>?_) ?_).mono ?_
 ·obtain ⟨h1,h2,h3,h4⟩:=hb (θ p.1,p.2) (List.mem_map.2 ⟨p,hpm,rfl⟩)
  exact ⟨h1,h2,h3,blk_free h4 rfl (hpa p hpm).1⟩
 ·exact hθ p hpm q hqm (hi (θ p.1,p.2) (List.mem_map.2 ⟨p,hpm,rfl⟩) (θ q.1,q.2) (List.mem_map.2 ⟨q,hqm,rfl⟩) hpq)
 ·refine ⟨by rw [hv.1];simp,fun i v a hvi ha=>cv_ren (List.all_eq_true.1 ht a (List.mem_of_getElem? ha)) (hv.2 i v _ hvi (by rw [List.getElem?_map,ha];rfl))⟩
 ·rintro e w' ⟨r,rfl,h1,h2,h3⟩
  refine ⟨r,rfl,⟨h1.os,h1.tape,h1.output,h1.size,fun g hg hD=>h1.block g hg ?_⟩,h2.free hR,fun p hpm=>?_⟩
  ·rintro ⟨p,hpm,rfl⟩
   exact hD ⟨(θ p.1,p.2),List.mem_map.2 ⟨p,hpm,rfl⟩,rfl⟩
  ·obtain ⟨q,hq,rfl⟩:=List.mem_map.1 hpm
   exact blk_free (h3 q hq) rfl (hpa q hq).2
theorem CtrM.at1 {P:Program} {A:World→Prop} {f:FuncId} {k0:Nat} {args:List AV} {b c:List C} {R:AV} (h:CtrM P A f args [(k0,b,c)] R) (k:Nat) (hp:(pf R&& [(k0,b,c)].all fun p=>p.2.1.all pfC&&p.2.2.all pfC)=true) (ht:args.all notTup=true):
  CtrM P A f (args.map (renA fun _=>k)) [(k,b,c)] R:=
 h.ren (fun _=>k) (fun p hp q hq _=>by rw [List.mem_singleton.1 hp,List.mem_singleton.1 hq]) hp ht
def ptrsOf:List AV→Option (List (Nat×Nat))
 | []=>some []
 | .one (.ptr k o)::r=>match ptrsOf r with | some l=>some ((k,o)::l) | none=>none
 | _=>none
theorem ptrsOf_ok: ∀ {l:List AV} {caps:List (Nat×Nat)},ptrsOf l=some caps→l=caps.map fun p=> .one (.ptr p.1 p.2)
 | [],caps,h=>by cases h;rfl
 | .one (.ptr k o)::r,caps,h=>by
   unfold ptrsOf at h
   cases hl:ptrsOf r with
   | none=>rw [hl] at h;cases h
   | some l=>
     rw [hl] at h
     cases h
     rw [ptrsOf_ok hl]
     rfl
 | .one (.v _)::_,_,h=>by cases h
 | .one (.q _ _ _)::_,_,h=>by cases h
 | .one (.fn _ _)::_,_,h=>by cases h
 | .one (.ints _)::_,_,h=>by cases h
 | .one (.iptr _)::_,_,h=>by cases h
 | .agg _::_,_,h=>by cases h
 | .tup _::_,_,h=>by cases h
 | .junk::_,_,h=>by cases h
theorem u_makeFunc' {P:Program} {X:Ctx} {ops l:List Oper} {σ:St} {K:List Eff→St→Prop} {dst:Option Tmp} {ty:TypeId} {pos:String} {af:Array Edge} {gd:Option (Nat×Bool)} {f:FuncId} {capt:Array Operand} {caps:List (Nat×Nat)} (hg:gOk ops σ.s gd) (hd:dB X.n dst=true) (hx:ptrsOf (capt.toList.map (evC σ.s))=some caps)
  (hl:RunK P X ops l (σ.app dst ⟨.one (.fn f caps),[],[],none⟩) (fun es σ'=>K (⟨.one (.fn f caps),[],[],none⟩::es) σ')):RunK P X ops (⟨dst,.makeFunc (.func f) #[] capt,ty,pos,af,gd⟩::l) σ K:=u_makeFunc hg hd (ptrsOf_ok hx) hl
def LoopN (P:Program) (X:Ctx) (c:Code) (Q:Exit→St→Prop):Nat→St→Prop
 | 0,_=>False
 | n+1,σ=>Aw P X c σ (thenA (LoopN P X c Q n) Q)
theorem aw_loopN {P:Program} {X:Ctx} {σ:St} {Q:Exit→St→Prop} {c:Code} (n:Nat) (h:LoopN P X c Q n σ):Aw P X (.loop c) σ Q:=
 aw_loop (LoopN P X c Q) h fun n σ hI=>by
  cases n with
  | zero=>exact hI.elim
  | succ n=>
    refine Aw.mono (show Aw P X c σ (thenA (LoopN P X c Q n) Q) from hI) fun e σ' hh=>?_
    cases e with
    | normal=>exact ⟨n,Nat.lt_succ_self n,hh⟩
    | _=>exact hh
section
variable {P:Program} {X:Ctx} {ops l:List Oper} {σ:St} {K:List Eff→St→Prop} {ty:TypeId} {pos:String} {af:Array Edge} {gd:Option (Nat×Bool)}
theorem u_allocAt (n:Nat) {d:Nat} {t:TypeId} {zv:Value} [hZ:Zer P t zv] (hg:gOk ops σ.s gd) (hd:dB X.n (some d)=true) (hf:(Nat.beq (σ.sz (d+n)) 0&&!zv.cells.toList.isEmpty)=true)
  (hl:RunK P X ops l (σ.app (some d) ⟨.one (.ptr (d+n) 0),[],[],some (d+n,zv.cells.toList.map .v)⟩) (fun es σ'=>K (⟨.one (.ptr (d+n) 0),[],[],some (d+n,zv.cells.toList.map .v)⟩::es) σ')):
  RunK P X ops (⟨some d,.alloc t,ty,pos,af,gd⟩::l) σ K:=by
 simp only [Bool.and_eq_true,Bool.not_eq_true'] at hf
 exact .of (fun _ _ hl=>run_alloc (d+n) hg (dB_ok hd) hf.1 hf.2 hl) hl
theorem u_boxAt (n:Nat) {d:Nat} {t:TypeId} {x:Operand} {av:AV} (hg:gOk ops σ.s gd) (hd:dB X.n (some d)=true) (hx:evC σ.s x=av) (hc:((isAggB av || Nat.beq (acells av).length 1)&&(acells av).all nlB&&Nat.beq (σ.sz (d+n)) 0&&!(acells av).isEmpty)=true)
  (hl:RunK P X ops l (σ.app (some d) ⟨.one (.ptr (d+n) 0),[],[],some (d+n,acells av)⟩) (fun es σ'=>K (⟨.one (.ptr (d+n) 0),[],[],some (d+n,acells av)⟩::es) σ')):
  RunK P X ops (⟨some d,.box t x,ty,pos,af,gd⟩::l) σ K:=by
 simp only [Bool.and_eq_true,Bool.not_eq_true'] at hc
 exact .of (fun _ _ hl=>run_box (d+n) hg (dB_ok hd) hx hc.1.1.1 hc.1.1.2 hc.1.2 hc.2 hl) hl
end
theorem pure_min {P:Program} {dst:Option Tmp} {ty:TypeId} {pos:String} {af:Array Edge} {gd:Option (Nat×Bool)} {s:Nat→AV} {x y:Operand} {ts:Array TypeId} {k k':IntKind} {a b:Int} (hx:evC s x= .one (.v (.int k a))) (hy:evC s y= .one (.v (.int k' b))):Pure P ⟨dst,.call ⟨.builtin .min,#[x,y],ts⟩,ty,pos,af,gd⟩ s (.one (.v (.int k (if b<a then b else a)))):=fun W0 μ sz w ρ hρ=>by
 have h1:=hρ x (by simp [Op.operands,Call.operands])
 rw [hx] at h1
 replace h1:ρ x= .int k a:=h1
 have h2:=hρ y (by simp [Op.operands,Call.operands])
 rw [hy] at h2
 replace h2:ρ y= .int k' b:=h2
 exact ⟨_,by simp [execOp,resolve,invoke,builtin,Builtin.min_,Builtin.min2,h1,h2],rfl⟩
theorem pure_max {P:Program} {dst:Option Tmp} {ty:TypeId} {pos:String} {af:Array Edge} {gd:Option (Nat×Bool)} {s:Nat→AV} {x y:Operand} {ts:Array TypeId} {k k':IntKind} {a b:Int} (hx:evC s x= .one (.v (.int k a))) (hy:evC s y= .one (.v (.int k' b))):Pure P ⟨dst,.call ⟨.builtin .max,#[x,y],ts⟩,ty,pos,af,gd⟩ s (.one (.v (.int k (if a<b then b else a)))):=fun W0 μ sz w ρ hρ=>by
 have h1:=hρ x (by simp [Op.operands,Call.operands])
 rw [hx] at h1
 replace h1:ρ x= .int k a:=h1
 have h2:=hρ y (by simp [Op.operands,Call.operands])
 rw [hy] at h2
 replace h2:ρ y= .int k' b:=h2
 exact ⟨_,by simp [execOp,resolve,invoke,builtin,Builtin.max_,Builtin.max2,h1,h2],rfl⟩
end Go.Proofs.YtemmbphdcgdboaaGreatDoor
namespace Go.Proofs.YtemmbphdcgdboaaGreatDoor
open Go.RowKit
set_option linter.unusedVariables false
set_option linter.unusedSimpArgs false
theorem cn_kp {X:Ctx} {μ:Nat→Nat} {σ:St} {a:Act} {w w':World} (h:Cn X μ σ a w) (k:Kp w w'):Cn X μ σ a w':=by
 have kl:=Kl.of_kp k
 have ext: ∀i,σ.sz i≠0→μ i=μ i∧σ.sz i≠0:=fun i hi=>⟨rfl,hi⟩
 refine ⟨h.w0.tr k,h.kd.trans (.of_kp k),h.defers,h.size,fun t=>(h.slot t).mono kl ext,fun i hi=>?_,h.inj,h.own,h.par⟩
 obtain ⟨cs,e,h1,h2,h3⟩:=h.blk i hi
 exact ⟨cs,e,by rw [k.block _ (Array.getElem?_eq_some_iff.1 h1).1];exact h1,h2,fun o x hx=>⟨(h3 o x hx).1.mono kl ext,(h3 o x hx).2⟩⟩
section
variable {P:Program} {ops:Array Oper} {Q:Exit→Act→World→Prop} {rest:List Oper} {o:Oper} {a:Act} {w w':World} {v:Value}
theorem wl_val (hg:o.guard=none) (hr:(execOp a.eval o).run P w= .ok (.value v) w') (h:wpList P ops Q rest (a.put o.dst v) w'):wpList P ops Q (o::rest) a w:=
 wpList_plain hg fun K hK=>by
  unfold Oper.wp
  rw [hr]
  exact hK _ _ h
theorem wl_skip (hg:o.guard=none) (hr:(execOp a.eval o).run P w= .ok .skip w') (h:wpList P ops Q rest (a.put o.dst undef) w'):wpList P ops Q (o::rest) a w:=
 wpList_plain hg fun K hK=>by
  unfold Oper.wp
  rw [hr]
  exact hK _ _ h
end
theorem ev_same {a:Act} {d:Tmp} {v:Value} (h:d<a.tmps.size):(a.put (some d) v).eval (.tmp d)=v:=by
 simp [Act.eval,Act.put,Array.getD_eq_getD_getElem?,h]
theorem ev_other {a:Act} {d t:Tmp} {v:Value} (h:d≠t):(a.put (some d) v).eval (.tmp t)=a.eval (.tmp t):=by
 simp [Act.eval,Act.put,Array.getElem?_setIfInBounds_ne h]
theorem ev_put {a:Act} {d t:Tmp} {v:Value} :(a.put (some d) v).eval (.tmp t)=if d=t then (if d<a.tmps.size then v else undef) else a.eval (.tmp t):=by
 by_cases h:d=t
 ·subst h
  rw [if_pos rfl]
  by_cases hl:d<a.tmps.size
  ·rw [if_pos hl];exact ev_same hl
  ·rw [if_neg hl]
   simp [Act.eval,Act.put,Array.getD_eq_getD_getElem?,hl]
 ·rw [if_neg h];exact ev_other h
theorem put_size {a:Act} {x:Option Tmp} {v:Value} :(a.put x v).tmps.size=a.tmps.size:=by cases x<;>simp [Act.put]
theorem one_limb (m:Nat):toL (2^m)=(List.replicate (m/32+1) 0).set (m/32) (2^(m % 32))∧Limbs ((List.replicate (m/32+1) 0).set (m/32) (2^(m % 32))):=by
 have hlt:2^(m % 32)<4294967296:=by
  have:(4294967296:Nat)=2^32:=rfl
  rw [this]
  exact Nat.pow_lt_pow_right (by decide) (Nat.mod_lt _ (by decide))
 have hL:Limbs ((List.replicate (m/32+1) 0).set (m/32) (2^(m % 32))):=by
  intro x hx
  rcases List.mem_or_eq_of_mem_set hx with h | h
  ·have:=List.eq_of_mem_replicate h
   omega
  ·omega
 refine ⟨?_,hL⟩
 have hval:val ((List.replicate (m/32+1) 0).set (m/32) (2^(m % 32)))=2^m:=by
  have h:=val_set (List.replicate (m/32+1) 0) (m/32) (2^(m % 32)) (by simp)
  rw [val_replicate] at h
  have h0:(List.replicate (m/32+1) 0).getD (m/32) 0=0:=by simp [List.getD]
  rw [h0] at h
  have hp:2^m=4294967296^(m/32)*2^(m % 32):=by
   have:(4294967296:Nat)=2^32:=rfl
   rw [this,←Nat.pow_mul,←Nat.pow_add,Nat.div_add_mod]
  rw [hp]
  omega
 rw [←hval,toL_val hL]
 have hsn:(List.replicate (m/32+1) 0).set (m/32) (2^(m % 32))=List.replicate (m/32) 0++ [2^(m % 32)]:=by
  rw [List.replicate_succ',List.set_append_right _ _ (by simp)]
  simp
 rw [hsn,trimL_snoc _ _ (by have:=Nat.two_pow_pos (m % 32);omega)]
section
variable {P:Program} {X:Ctx} {ops l:List Oper} {σ:St} {K:List Eff→St→Prop} {dst:Option Tmp} {ty:TypeId} {pos:String} {af:Array Edge} {gd:Option (Nat×Bool)}
theorem u_max {x y:Operand} {ts:Array TypeId} {k k':IntKind} {a b m:Int} (hg:gOk ops σ.s gd) (hd:dB X.n dst=true) (hx:evC σ.s x= .one (.v (.int k a))) (hy:evC σ.s y= .one (.v (.int k' b))) (hc:(if a<b then b else a)=m)
  (hl:RunK P X ops l (σ.app dst ⟨.one (.v (.int k m)),[],[],none⟩) (fun es σ'=>K (⟨.one (.v (.int k m)),[],[],none⟩::es) σ')):RunK P X ops (⟨dst,.call ⟨.builtin .max,#[x,y],ts⟩,ty,pos,af,gd⟩::l) σ K:=by
 subst hc
 exact u_pure (o:=⟨dst,.call ⟨.builtin .max,#[x,y],ts⟩,ty,pos,af,gd⟩) hg hd (pure_max hx hy) hl
theorem u_min {x y:Operand} {ts:Array TypeId} {k k':IntKind} {a b m:Int} (hg:gOk ops σ.s gd) (hd:dB X.n dst=true) (hx:evC σ.s x= .one (.v (.int k a))) (hy:evC σ.s y= .one (.v (.int k' b))) (hc:(if b<a then b else a)=m)
  (hl:RunK P X ops l (σ.app dst ⟨.one (.v (.int k m)),[],[],none⟩) (fun es σ'=>K (⟨.one (.v (.int k m)),[],[],none⟩::es) σ')):RunK P X ops (⟨dst,.call ⟨.builtin .min,#[x,y],ts⟩,ty,pos,af,gd⟩::l) σ K:=by
 subst hc
 exact u_pure (o:=⟨dst,.call ⟨.builtin .min,#[x,y],ts⟩,ty,pos,af,gd⟩) hg hd (pure_min hx hy) hl
theorem pure_shr {s:Nat→AV} {t u:TypeId} {x y:Operand} {k k':IntKind} {a b:Int} (hx:evC s x= .one (.v (.int k a))) (hy:evC s y= .one (.v (.int k' b))) (hb:0≤b):Pure P ⟨dst,.binOp .shr t x y u,ty,pos,af,gd⟩ s (.one (.v (.int k (a.fdiv (2^min b.toNat k.bits))))):=fun W0 μ sz w ρ hρ=>by
 have h1:=hρ x (by simp [Op.operands])
 rw [hx] at h1
 replace h1:ρ x= .int k a:=h1
 have h2:=hρ y (by simp [Op.operands])
 rw [hy] at h2
 replace h2:ρ y= .int k' b:=h2
 have: ¬b<0:=by omega
 exact ⟨_,by simp [execOp,h1,h2,eqGuard,binOp,Op.shift,this],rfl⟩
theorem u_shr {t u:TypeId} {x y:Operand} {k k':IntKind} {a b m:Int} (hg:gOk ops σ.s gd) (hd:dB X.n dst=true) (hx:evC σ.s x= .one (.v (.int k a))) (hy:evC σ.s y= .one (.v (.int k' b))) (hi:decide (0≤b)=true) (hc:a.fdiv (2^min b.toNat k.bits)=m)
  (hl:RunK P X ops l (σ.app dst ⟨.one (.v (.int k m)),[],[],none⟩) (fun es σ'=>K (⟨.one (.v (.int k m)),[],[],none⟩::es) σ')):RunK P X ops (⟨dst,.binOp .shr t x y u,ty,pos,af,gd⟩::l) σ K:=by
 subst hc
 exact u_pure (o:=⟨dst,.binOp .shr t x y u,ty,pos,af,gd⟩) hg hd (pure_shr hx hy (of_decide_eq_true hi)) hl
end
end Go.Proofs.YtemmbphdcgdboaaGreatDoor
namespace Go.Proofs.YtemmbphdcgdboaaGreatDoor
open Go.RowKit
set_option linter.unusedVariables false
set_option linter.unusedSimpArgs false
def CtrN (P:Program) (A:World→Prop) (f:FuncId) (args:List AV) (cs:List C):Prop:=
 ∀(W0 w:World) (μ sz:Nat→Nat) (vs:List Value),A W0→Kp W0 w→All2 (cv W0 μ sz w) vs args→
  Calls P f vs.toArray w fun e w'=> ∃(g:Nat) (a:Array Value) (ty:TypeId),e= .returned (.pointer (some ⟨g,0,none⟩))∧w.heap.size≤g∧Kp w w'∧w'.heap[g]?=some (.cells a ty (0,0))∧All2 (cc W0 μ sz w') a.toList cs
theorem CtrN.weak {P:Program} {A:World→Prop} {f:FuncId} {args args':List AV} {cs:List C} (h:CtrN P A f args cs) (ha:Ents args' args):CtrN P A f args' cs:=
 fun W0 w μ sz vs hA hk hv=>h W0 w μ sz vs hA hk (ha.all2 hv)
theorem ctrN_body {P:Program} {A:World→Prop} {f:FuncId} {fn:Func} {c:Code} {args:List AV} {cs:List C} {n:Nat} {rs:List ResultVar} (k:Nat) (hf:P.funcs[f]?=some fn) (hb:fn.body=some c) (hn:fn.ntmps=n) (hrs:fn.results=rs.toArray) (hle:Nat.ble args.length n=true)
  (hpf:cs.all pfC=true) (hin:(args.all fun a=>inA [] a)=true)
  (h: ∀(W0 base:World) (D:Nat→Prop) (μ0:Nat→Nat),A W0→Aw P ⟨W0,base,D,n,[],μ0⟩ c (stL (argS 0 args) []) (fun e σ=>(e= .normal∨e= .ret)∧Fin P rs [] (.one (.ptr k 0)) σ∧σ.sz k=cs.length∧ ∀(i:Nat) c,cs[i]?=some c→EntC (σ.m k i) c)):CtrN P A f args cs:=by
 intro W0 w μ sz vs hA hk hv
 subst hn
 have hn:=Nat.le_of_ble_eq_true hle
 let X:Ctx:=⟨W0,w,fun _=>False,fn.ntmps,[],μ⟩
 have hcn:CN X (stL (argS 0 args) []) { tmps:=vs.toArray++Array.replicate (fn.ntmps-vs.toArray.size) undef,defers:= [] } w:=by
  refine ⟨μ,hk,.refl _ _,rfl,?_,fun t=>?_,fun k hkz=>absurd rfl hkz,fun k k' hk1=>absurd rfl hk1,fun k hkz=>absurd rfl hkz,fun k hkp=>by cases hkp⟩
  ·have:=hv.1
   simp
   show _=fn.ntmps
   omega
  ·show cv W0 μ _ w _ (lk .junk (argS 0 args) t)
   rcases argS_lk (as:=args) (k:=0) (t:=t) with h1 | ⟨i,b,h1,h2,h3⟩
   ·rw [h1];trivial
   ·rw [h3]
    rw [Nat.zero_add] at h1
    subst h1
    have hil:t<vs.length:=by rw [hv.1];exact (List.getElem?_eq_some_iff.1 h2).1
    have hev:(vs.toArray++Array.replicate (fn.ntmps-vs.toArray.size) undef).getD t undef=vs[t]:=by
     simp [Array.getD_eq_getD_getElem?,Array.getElem?_append,hil]
    rw [hev]
    exact (hv.2 t _ b (List.getElem?_eq_getElem hil) h2).keep (List.all_eq_true.1 hin b (List.mem_of_getElem? h2)) fun k hk=>by cases hk
 refine calls_of_wp hf hb (wp_mono (h W0 w (fun _=>False) μ hA _ _ hcn) ?_)
 rintro e a' w' ⟨σ',⟨he,hfin,hz,hm⟩,μ',hcn'⟩
 obtain ⟨v,hv1,hv2⟩:=fin_results (fn:=fn) hcn' (by rw [hrs];exact hfin)
 obtain ⟨hv3,hv4⟩:v= .pointer (some ⟨μ' k,0,none⟩)∧σ'.sz k≠0:=hv2
 obtain ⟨ca,e',h3,h4,h5⟩:=hcn'.blk k hv4
 have hpost: ∃(g:Nat) (a:Array Value) (ty:TypeId),Ending.returned v= .returned (.pointer (some ⟨g,0,none⟩))∧w.heap.size≤g∧Kp w w'∧w'.heap[g]?=some (.cells a ty (0,0))∧All2 (cc W0 μ sz w') a.toList cs:=by
  refine ⟨μ' k,ca,e',by rw [hv3],?_,?_,h3,⟨by simp;rw [h4,hz],fun o x c hx hc=>?_⟩⟩
  ·rcases (hcn'.own k hv4).2 with h | h
   ·exact h
   ·exact h.elim
  ·have h2:=hcn'.kd
   exact ⟨h2.os,h2.tape,h2.output,h2.size,fun k hk=>h2.block k hk fun h=>h⟩
  ·rw [Array.getElem?_toList] at hx
   exact (hm o c hc _ _ _ _ _ (h5 o x hx).1).free (List.all_eq_true.1 hpf _ (List.mem_of_getElem? hc))
 rcases he with rfl | rfl
 ·exact ⟨hcn'.defers,v,hv1,hpost⟩
 ·exact ⟨hcn'.defers,v,hv1,hpost⟩
section
variable {P:Program} {X:Ctx} {ops l:List Oper} {σ:St} {K:List Eff→St→Prop}
variable {dst:Option Tmp} {ty:TypeId} {pos:String} {af:Array Edge} {gd:Option (Nat×Bool)} {s:Nat→AV} {z:Nat→Nat}
theorem sim_callN {A:World→Prop} (hA:A X.W0) {c:Call} {f:FuncId} [hF:Fun P f] {as:List AV} {cs:List C} {d:Nat} (hd: ∀t,dst=some t→t<X.n)
  (hcl:calleeOf s c.callee=some (f,[])) (has:c.args.toList.map (evC s)=as) (hc:CtrN P A f as cs) (hnl:cs.all nlB=true):
  Sim P X ⟨dst,.call c,ty,pos,af,gd⟩ s z ⟨.one (.ptr d 0),[],[],some (d,cs)⟩:=by
 intro σ hs hsz hrd hal a w hcn K Q hK
 obtain ⟨hid,hne⟩:=hal _ rfl
 obtain ⟨μ,hcn⟩:=hcn
 obtain ⟨callee,args,argTypes⟩:=c
 obtain ⟨al,rfl⟩: ∃al:List Operand,args=al.toArray:=⟨args.toList,by simp⟩
 cases callee with
 | invoke r m=>simp [calleeOf] at hcl
 | builtin b=>simp [calleeOf] at hcl
 | value fx=>
   have hfx:=hcn.ev fx
   replace hfx:=evC_le (o:=⟨dst,.call ⟨.value fx,al.toArray,argTypes⟩,ty,pos,af,gd⟩) hs (by simp [Op.operands,Call.operands]) hfx
   simp only [calleeOf] at hcl
   split at hcl
   ·rename_i f' caps' hev
    simp only [Option.some.injEq,Prod.mk.injEq,List.map_eq_nil_iff] at hcl
    obtain ⟨rfl,rfl⟩:=hcl
    rw [hev] at hfx
    obtain ⟨hf1,hf2⟩:=hfx
    obtain ⟨vs,hvs⟩: ∃vs:List Value,vs=al.map a.eval:=⟨_,rfl⟩
    have hv:All2 (cv X.W0 μ σ.sz w) vs as:=by
     subst hvs
     rw [←has]
     refine ⟨by simp,fun i v b hv hb=>?_⟩
     simp only [List.getElem?_map,Option.map_eq_some_iff] at hv hb
     obtain ⟨x,hx,rfl⟩:=hv
     obtain ⟨y,hy,rfl⟩:=hb
     rw [hx] at hy
     cases hy
     have:=hcn.ev x
     replace this:=evC_le (o:=⟨dst,.call ⟨.value fx,al.toArray,argTypes⟩,ty,pos,af,gd⟩) hs (by simp [Op.operands,Call.operands];exact .inr (List.mem_of_getElem? hx)) this
     exact this
    have hrun:(execOp a.eval ⟨dst,.call ⟨.value fx,al.toArray,argTypes⟩,ty,pos,af,gd⟩).run P w= .ok (.enter f' vs.toArray) w:=by
     have:=hF.run vs.toArray w
     simp [execOp,resolve,hf1,Deferred.ofValue,invoke,hvs] at this⊢
     exact this
    unfold Oper.wp
    rw [hrun]
    refine Calls.mono (hc X.W0 w μ σ.sz vs hA hcn.w0 hv) ?_
    rintro e w' ⟨g,ca,ty',rfl,hg,hkp,hb,hall⟩
    have hnew:=hcn.new (id:=d) hid (w':=w') (g:=g) (vs:=ca) (e:=ty') hkp hg hb hne hall (fun c hcm=>nlB_ok (List.all_eq_true.1 hnl c hcm))
    refine hK _ _ ⟨upd μ d g,?_⟩
    refine cn_put hnew (d:=dst) hd (v:= .pointer (some ⟨g,0,none⟩)) (av:= .one (.ptr d 0)) ⟨by rw [upd_self],?_⟩
    show upd σ.sz d _ d≠0
    rw [upd_self]
    intro h0
    exact hne (List.eq_nil_of_length_eq_zero h0)
   ·cases hcl
theorem u_callN {A:World→Prop} (hA:A X.W0) {c:Call} {f:FuncId} [hF:Fun P f] {as:List AV} {cs:List C} {d:Nat} (hg:gOk ops σ.s gd) (hd:dB X.n (some d)=true) (hf:(Nat.beq (σ.sz d) 0&&!cs.isEmpty)=true) (hcl:calleeOf σ.s c.callee=some (f,[])) (has:Ents (c.args.toList.map (evC σ.s)) as) (hc:CtrN P A f as cs) (hq:cs.all nlB=true)
  (hl:RunK P X ops l (σ.app (some d) ⟨.one (.ptr d 0),[],[],some (d,cs)⟩) (fun es σ'=>K (⟨.one (.ptr d 0),[],[],some (d,cs)⟩::es) σ')):RunK P X ops (⟨some d,.call c,ty,pos,af,gd⟩::l) σ K:=by
 simp only [Bool.and_eq_true,Bool.not_eq_true'] at hf
 have hS:=sim_callN (X:=X) (dst:=some d) (ty:=ty) (pos:=pos) (af:=af) (gd:=gd) (s:=σ.s) (z:=σ.sz) (d:=d) hA (c:=c) (dB_ok hd) hcl rfl (hc.weak has) hq
 refine .of (fun _ _ hl=>Run.step hg hS (fun p hp=>by cases hp) (fun p hp=>?_) hl) hl
 cases hp
 refine ⟨by simpa using hf.1,fun h=>?_⟩
 have h:cs= []:=h
 rw [h] at hf
 cases hf.2
theorem u_indexAddrTo (o:Nat) {t:TypeId} {x y:Operand} {len:Nat} {agg:Bool} {n:Nat} [hF:Ary P t len agg n] {k off:Nat} {ik:IntKind} {i:Int} (hg:gOk ops σ.s gd) (hd:dB X.n dst=true) (hx:evC σ.s x= .one (.ptr k off)) (hy:evC σ.s y= .one (.v (.int ik i))) (hc:(decide (0≤i)&&decide (i<len)&&Nat.beq (off+i.toNat*n) o)=true) (hl:RunK P X ops l (σ.app dst ⟨.one (.ptr k o),[],[],none⟩) (fun es σ'=>K (⟨.one (.ptr k o),[],[],none⟩::es) σ')):
  RunK P X ops (⟨dst,.indexAddr t x y,ty,pos,af,gd⟩::l) σ K:=by
 simp only [Bool.and_eq_true] at hc
 obtain rfl:=Nat.eq_of_beq_eq_true hc.2
 exact u_indexAddr hg hd hx hy (by simp only [Bool.and_eq_true];exact hc.1) hl
end
end Go.Proofs.YtemmbphdcgdboaaGreatDoor
namespace Go.Proofs.YtemmbphdcgdboaaGreatDoor
open Go.RowKit
set_option linter.unusedVariables false
section
variable {P:Program} {X:Ctx} {ops l:List Oper} {σ:St} {K:List Eff→St→Prop} {dst:Option Tmp} {ty:TypeId} {pos:String} {af:Array Edge} {gd:Option (Nat×Bool)}
theorem v_skip {op:Op} {g:Nat} {want:Bool} (hg:gslot ops σ.s g= .one (.v (.bool (!want))):=by first | exact trivial | exact rfl) (hl:RunK P X ops l (σ.app dst noEff) (fun es σ'=>K (noEff::es) σ')):
  RunK P X ops (⟨dst,op,ty,pos,af,some (g,want)⟩::l) σ K:=u_skip hg hl
theorem v_move {x:Operand} {av:AV} (hg:gOk ops σ.s gd:=by first | exact trivial | exact rfl) (hd:dB X.n dst=true:=by exact rfl) (hx:evC σ.s x=av:=by exact rfl) (hl:RunK P X ops l (σ.app dst ⟨av,[],[],none⟩) (fun es σ'=>K (⟨av,[],[],none⟩::es) σ')):
  RunK P X ops (⟨dst,.move x,ty,pos,af,gd⟩::l) σ K:=u_move hg hd hx hl
theorem v_assign {x:Operand} {av:AV} (hg:gOk ops σ.s gd:=by first | exact trivial | exact rfl) (hd:dB X.n dst=true:=by exact rfl) (hx:evC σ.s x=av:=by exact rfl) (hl:RunK P X ops l (σ.app dst ⟨av,[],[],none⟩) (fun es σ'=>K (⟨av,[],[],none⟩::es) σ')):
  RunK P X ops (⟨dst,.assign x,ty,pos,af,gd⟩::l) σ K:=u_assign hg hd hx hl
theorem v_load {t:TypeId} {x:Operand} {agg:Bool} {n:Nat} [hT:Tsz P t agg n] {k off:Nat} (hg:gOk ops σ.s gd:=by first | exact trivial | exact rfl) (hd:dB X.n dst=true:=by exact rfl) (hx:evC σ.s x= .one (.ptr k off):=by exact rfl) (hz:(Nat.ble (off+n) (σ.sz k)&&Nat.blt 0 n&&(agg || Nat.beq n 1))=true:=by exact rfl) (hl:RunK P X ops l (σ.app dst ⟨mkA agg (rdL (σ.m k) off n),[(k,off,rdL (σ.m k) off n)],[],none⟩) (fun es σ'=>K (⟨mkA agg (rdL (σ.m k) off n),[(k,off,rdL (σ.m k) off n)],[],none⟩::es) σ')):
  RunK P X ops (⟨dst,.load t x,ty,pos,af,gd⟩::l) σ K:=u_load hg hd hx hz hl
theorem v_fieldAddr {t:TypeId} {x:Operand} {i fo:Nat} {agg:Bool} {n:Nat} [hF:Fld P t i fo agg n] {k off:Nat} (hg:gOk ops σ.s gd:=by first | exact trivial | exact rfl) (hd:dB X.n dst=true:=by exact rfl) (hx:evC σ.s x= .one (.ptr k off):=by exact rfl) (hl:RunK P X ops l (σ.app dst ⟨.one (.ptr k (off+fo)),[],[],none⟩) (fun es σ'=>K (⟨.one (.ptr k (off+fo)),[],[],none⟩::es) σ')):
  RunK P X ops (⟨dst,.fieldAddr t x i,ty,pos,af,gd⟩::l) σ K:=u_fieldAddr hg hd hx hl
theorem v_box {d:Nat} {t:TypeId} {x:Operand} {av:AV} (hg:gOk ops σ.s gd:=by first | exact trivial | exact rfl) (hd:dB X.n (some d)=true:=by exact rfl) (hx:evC σ.s x=av:=by exact rfl) (hc:((isAggB av || Nat.beq (acells av).length 1)&&(acells av).all nlB&&Nat.beq (σ.sz d) 0&&!(acells av).isEmpty)=true:=by exact rfl) (hl:RunK P X ops l (σ.app (some d) ⟨.one (.ptr d 0),[],[],some (d,acells av)⟩) (fun es σ'=>K (⟨.one (.ptr d 0),[],[],some (d,acells av)⟩::es) σ')):
  RunK P X ops (⟨some d,.box t x,ty,pos,af,gd⟩::l) σ K:=u_box hg hd hx hc hl
theorem v_alloc {d:Nat} {t:TypeId} {zv:Value} [hZ:Zer P t zv] (hg:gOk ops σ.s gd:=by first | exact trivial | exact rfl) (hd:dB X.n (some d)=true:=by exact rfl) (hf:(Nat.beq (σ.sz d) 0&&!zv.cells.toList.isEmpty)=true:=by exact rfl) (hl:RunK P X ops l (σ.app (some d) ⟨.one (.ptr d 0),[],[],some (d,zv.cells.toList.map .v)⟩) (fun es σ'=>K (⟨.one (.ptr d 0),[],[],some (d,zv.cells.toList.map .v)⟩::es) σ')):
  RunK P X ops (⟨some d,.alloc t,ty,pos,af,gd⟩::l) σ K:=u_alloc hg hd hf hl
theorem v_buildS {t:TypeId} {parts:Array (Nat×Operand)} {z:Value} {pl:List (Nat×Nat)} [hZ:Zer P t z] [hB:BldS P t pl] {ps:List (Nat×AV)} {cs:List C} (hg:gOk ops σ.s gd:=by first | exact trivial | exact rfl) (hd:dB X.n dst=true:=by exact rfl) (hx:parts.toList.map (fun p=>(p.1,evC σ.s p.2))=ps:=by exact rfl) (hy:(ps.all fun p=>(acells p.2).all nlB)=true:=by exact rfl) (hc:fillC (pl[·]?) (z.cells.toList.map .v) ps=some cs:=by exact rfl) (hl:RunK P X ops l (σ.app dst ⟨.agg cs,[],[],none⟩) (fun es σ'=>K (⟨.agg cs,[],[],none⟩::es) σ')):
  RunK P X ops (⟨dst,.build t parts,ty,pos,af,gd⟩::l) σ K:=u_buildS hg hd hx hy hc hl
theorem v_buildA {t:TypeId} {parts:Array (Nat×Operand)} {z:Value} {n:Nat} [hZ:Zer P t z] [hB:BldA P t n] {ps:List (Nat×AV)} {cs:List C} (hg:gOk ops σ.s gd:=by first | exact trivial | exact rfl) (hd:dB X.n dst=true:=by exact rfl) (hx:parts.toList.map (fun p=>(p.1,evC σ.s p.2))=ps:=by exact rfl) (hy:(ps.all fun p=>(acells p.2).all nlB)=true:=by exact rfl) (hc:fillC (fun i=>some (i*n,n)) (z.cells.toList.map .v) ps=some cs:=by exact rfl) (hl:RunK P X ops l (σ.app dst ⟨.agg cs,[],[],none⟩) (fun es σ'=>K (⟨.agg cs,[],[],none⟩::es) σ')):
  RunK P X ops (⟨dst,.build t parts,ty,pos,af,gd⟩::l) σ K:=u_buildA hg hd hx hy hc hl
theorem v_extract {x:Operand} {i:Nat} {as:List AV} {a:AV} (hg:gOk ops σ.s gd:=by first | exact trivial | exact rfl) (hd:dB X.n dst=true:=by exact rfl) (hx:evC σ.s x= .tup as:=by exact rfl) (hc:as[i]?=some a:=by exact rfl) (hl:RunK P X ops l (σ.app dst ⟨a,[],[],none⟩) (fun es σ'=>K (⟨a,[],[],none⟩::es) σ')):
  RunK P X ops (⟨dst,.extract x i,ty,pos,af,gd⟩::l) σ K:=u_extract hg hd hx hc hl
theorem v_indexAddr {t:TypeId} {x y:Operand} {len:Nat} {agg:Bool} {n:Nat} [hF:Ary P t len agg n] {k off:Nat} {ik:IntKind} {i:Int} (hg:gOk ops σ.s gd:=by first | exact trivial | exact rfl) (hd:dB X.n dst=true:=by exact rfl) (hx:evC σ.s x= .one (.ptr k off):=by exact rfl) (hy:evC σ.s y= .one (.v (.int ik i)):=by exact rfl) (hc:(decide (0≤i)&&decide (i<len))=true:=by exact rfl) (hl:RunK P X ops l (σ.app dst ⟨.one (.ptr k (off+i.toNat*n)),[],[],none⟩) (fun es σ'=>K (⟨.one (.ptr k (off+i.toNat*n)),[],[],none⟩::es) σ')):
  RunK P X ops (⟨dst,.indexAddr t x y,ty,pos,af,gd⟩::l) σ K:=u_indexAddr hg hd hx hy hc hl
theorem v_field {t:TypeId} {x:Operand} {i off:Nat} {agg:Bool} {n:Nat} [hF:Fld P t i off agg n] {cs:List C} (hg:gOk ops σ.s gd:=by first | exact trivial | exact rfl) (hd:dB X.n dst=true:=by exact rfl) (hx:evC σ.s x= .agg cs:=by exact rfl) (hc:(Nat.ble (off+n) cs.length&&(agg || Nat.beq n 1))=true:=by exact rfl) (hl:RunK P X ops l (σ.app dst ⟨mkA agg ((cs.drop off).take n),[],[],none⟩) (fun es σ'=>K (⟨mkA agg ((cs.drop off).take n),[],[],none⟩::es) σ')):
  RunK P X ops (⟨dst,.field t x i,ty,pos,af,gd⟩::l) σ K:=u_field hg hd hx hc hl
theorem v_nilCheck {x:Operand} {k off:Nat} (hg:gOk ops σ.s gd:=by first | exact trivial | exact rfl) (hd:dB X.n dst=true:=by exact rfl) (hx:evC σ.s x= .one (.ptr k off):=by exact rfl) (hl:RunK P X ops l (σ.app dst ⟨.one (.ptr k off),[],[],none⟩) (fun es σ'=>K (⟨.one (.ptr k off),[],[],none⟩::es) σ')):
  RunK P X ops (⟨dst,.nilCheck x,ty,pos,af,gd⟩::l) σ K:=u_nilCheck hg hd hx hl
theorem v_not {t:TypeId} {x:Operand} {b:Bool} (hg:gOk ops σ.s gd:=by first | exact trivial | exact rfl) (hd:dB X.n dst=true:=by exact rfl) (hx:evC σ.s x= .one (.v (.bool b)):=by exact rfl) (hl:RunK P X ops l (σ.app dst ⟨.one (.v (.bool (!b))),[],[],none⟩) (fun es σ'=>K (⟨.one (.v (.bool (!b))),[],[],none⟩::es) σ')):
  RunK P X ops (⟨dst,.unOp .not t x,ty,pos,af,gd⟩::l) σ K:=u_not hg hd hx hl
theorem v_pickT {c x y:Operand} {av:AV} (hg:gOk ops σ.s gd:=by first | exact trivial | exact rfl) (hd:dB X.n dst=true:=by exact rfl) (hc:evC σ.s c= .one (.v (.bool true)):=by exact rfl) (hx:evC σ.s x=av:=by exact rfl) (hl:RunK P X ops l (σ.app dst ⟨av,[],[],none⟩) (fun es σ'=>K (⟨av,[],[],none⟩::es) σ')):
  RunK P X ops (⟨dst,.pick c x y,ty,pos,af,gd⟩::l) σ K:=u_pickT hg hd hc hx hl
theorem v_pickF {c x y:Operand} {av:AV} (hg:gOk ops σ.s gd:=by first | exact trivial | exact rfl) (hd:dB X.n dst=true:=by exact rfl) (hc:evC σ.s c= .one (.v (.bool false)):=by exact rfl) (hx:evC σ.s y=av:=by exact rfl) (hl:RunK P X ops l (σ.app dst ⟨av,[],[],none⟩) (fun es σ'=>K (⟨av,[],[],none⟩::es) σ')):
  RunK P X ops (⟨dst,.pick c x y,ty,pos,af,gd⟩::l) σ K:=u_pickF hg hd hc hx hl
theorem v_makeFunc' {P:Program} {X:Ctx} {ops l:List Oper} {σ:St} {K:List Eff→St→Prop} {dst:Option Tmp} {ty:TypeId} {pos:String} {af:Array Edge} {gd:Option (Nat×Bool)} {f:FuncId} {capt:Array Operand} {caps:List (Nat×Nat)} (hg:gOk ops σ.s gd:=by first | exact trivial | exact rfl) (hd:dB X.n dst=true:=by exact rfl) (hx:ptrsOf (capt.toList.map (evC σ.s))=some caps:=by exact rfl) (hl:RunK P X ops l (σ.app dst ⟨.one (.fn f caps),[],[],none⟩) (fun es σ'=>K (⟨.one (.fn f caps),[],[],none⟩::es) σ')):
  RunK P X ops (⟨dst,.makeFunc (.func f) #[] capt,ty,pos,af,gd⟩::l) σ K:=u_makeFunc' hg hd hx hl
theorem v_nilCheckFn {x:Operand} {f:FuncId} {caps:List (Nat×Nat)} (hg:gOk ops σ.s gd:=by first | exact trivial | exact rfl) (hd:dB X.n dst=true:=by exact rfl) (hx:evC σ.s x= .one (.fn f caps):=by exact rfl) (hl:RunK P X ops l (σ.app dst ⟨.one (.fn f caps),[],[],none⟩) (fun es σ'=>K (⟨.one (.fn f caps),[],[],none⟩::es) σ')):
  RunK P X ops (⟨dst,.nilCheck x,ty,pos,af,gd⟩::l) σ K:=u_nilCheckFn hg hd hx hl
theorem v_loadInt {t:TypeId} {x:Operand} [hT:Tsz P t false 1] {n:Int} (hg:gOk ops σ.s gd:=by first | exact trivial | exact rfl) (hd:dB X.n dst=true:=by exact rfl) (hx:evC σ.s x= .one (.iptr n):=by exact rfl) (hl:RunK P X ops l (σ.app dst ⟨.one (.v (.int .i64 n)),[],[],none⟩) (fun es σ'=>K (⟨.one (.v (.int .i64 n)),[],[],none⟩::es) σ')):
  RunK P X ops (⟨dst,.load t x,ty,pos,af,gd⟩::l) σ K:=u_loadInt hg hd hx hl
theorem v_len {t e:TypeId} {x:Operand} {ls:List Int} [hT:SliT P t e] (hg:gOk ops σ.s gd:=by first | exact trivial | exact rfl) (hd:dB X.n dst=true:=by exact rfl) (hx:evC σ.s x= .one (.ints ls):=by exact rfl) (hl:RunK P X ops l (σ.app dst ⟨.one (.v (.int .i64 ls.length)),[],[],none⟩) (fun es σ'=>K (⟨.one (.v (.int .i64 ls.length)),[],[],none⟩::es) σ')):
  RunK P X ops (⟨dst,.call ⟨.builtin .len,#[x],#[t]⟩,ty,pos,af,gd⟩::l) σ K:=u_len hg hd hx hl
theorem v_eqBool {t u:TypeId} {x y:Operand} {a b:Bool} [hT:BoolT P t] (hg:gOk ops σ.s gd:=by first | exact trivial | exact rfl) (hd:dB X.n dst=true:=by exact rfl) (hx:evC σ.s x= .one (.v (.bool a)):=by exact rfl) (hy:evC σ.s y= .one (.v (.bool b)):=by exact rfl) (hl:RunK P X ops l (σ.app dst ⟨.one (.v (.bool (a==b))),[],[],none⟩) (fun es σ'=>K (⟨.one (.v (.bool (a==b))),[],[],none⟩::es) σ')):
  RunK P X ops (⟨dst,.binOp .eql t x y u,ty,pos,af,gd⟩::l) σ K:=u_eqBool hg hd hx hy hl
theorem v_store {t:TypeId} {x y:Operand} {agg:Bool} {n:Nat} [hT:Tsz P t agg n] {k off:Nat} {av:AV} (hg:gOk ops σ.s gd:=by first | exact trivial | exact rfl) (hd:dB X.n dst=true:=by exact rfl) (hx:evC σ.s x= .one (.ptr k off):=by exact rfl) (hy:evC σ.s y=av:=by exact rfl) (hc:(Nat.beq (acells av).length n&&(isAggB av || Nat.beq n 1)&&Nat.ble (off+n) (σ.sz k)&&Nat.blt 0 n&&(acells av).all nlB)=true:=by kernel_rfl) (hl:RunK P X ops l (σ.app dst ⟨.junk,[],[(k,off,acells av)],none⟩) (fun es σ'=>K (⟨.junk,[],[(k,off,acells av)],none⟩::es) σ')):
  RunK P X ops (⟨dst,.store t x y,ty,pos,af,gd⟩::l) σ K:=u_store hg hd hx hy hc hl
theorem v_bin {op:BinOp} {t u:TypeId} {x y:Operand} {k:IntKind} {a b:Int} {v:Value} (hg:gOk ops σ.s gd:=by first | exact trivial | exact rfl) (hd:dB X.n dst=true:=by exact rfl) (hx:evC σ.s x= .one (.v (.int k a)):=by exact rfl) (hy:evC σ.s y= .one (.v (.int k b)):=by exact rfl) (hc:binR op k a b=some v:=by first | assumption | exact rfl) (hl:RunK P X ops l (σ.app dst ⟨.one (.v v),[],[],none⟩) (fun es σ'=>K (⟨.one (.v v),[],[],none⟩::es) σ')):
  RunK P X ops (⟨dst,.binOp op t x y u,ty,pos,af,gd⟩::l) σ K:=u_bin hg hd hx hy hc hl
theorem v_neg' {t:TypeId} {x:Operand} {k:IntKind} {n m:Int} (hg:gOk ops σ.s gd:=by first | exact trivial | exact rfl) (hd:dB X.n dst=true:=by exact rfl) (hx:evC σ.s x= .one (.v (.int k n)):=by exact rfl) (hc:k.wrap (0-n)=m:=by first | assumption | exact rfl) (hl:RunK P X ops l (σ.app dst ⟨.one (.v (.int k m)),[],[],none⟩) (fun es σ'=>K (⟨.one (.v (.int k m)),[],[],none⟩::es) σ')):
  RunK P X ops (⟨dst,.unOp .neg t x,ty,pos,af,gd⟩::l) σ K:=u_neg' hg hd hx hc hl
theorem v_max {x y:Operand} {ts:Array TypeId} {k k':IntKind} {a b m:Int} (hg:gOk ops σ.s gd:=by first | exact trivial | exact rfl) (hd:dB X.n dst=true:=by exact rfl) (hx:evC σ.s x= .one (.v (.int k a)):=by exact rfl) (hy:evC σ.s y= .one (.v (.int k' b)):=by exact rfl) (hc:(if a<b then b else a)=m:=by first | assumption | exact rfl) (hl:RunK P X ops l (σ.app dst ⟨.one (.v (.int k m)),[],[],none⟩) (fun es σ'=>K (⟨.one (.v (.int k m)),[],[],none⟩::es) σ')):
  RunK P X ops (⟨dst,.call ⟨.builtin .max,#[x,y],ts⟩,ty,pos,af,gd⟩::l) σ K:=u_max hg hd hx hy hc hl
theorem v_min {x y:Operand} {ts:Array TypeId} {k k':IntKind} {a b m:Int} (hg:gOk ops σ.s gd:=by first | exact trivial | exact rfl) (hd:dB X.n dst=true:=by exact rfl) (hx:evC σ.s x= .one (.v (.int k a)):=by exact rfl) (hy:evC σ.s y= .one (.v (.int k' b)):=by exact rfl) (hc:(if b<a then b else a)=m:=by first | assumption | exact rfl) (hl:RunK P X ops l (σ.app dst ⟨.one (.v (.int k m)),[],[],none⟩) (fun es σ'=>K (⟨.one (.v (.int k m)),[],[],none⟩::es) σ')):
  RunK P X ops (⟨dst,.call ⟨.builtin .min,#[x,y],ts⟩,ty,pos,af,gd⟩::l) σ K:=u_min hg hd hx hy hc hl
theorem v_shr {t u:TypeId} {x y:Operand} {k k':IntKind} {a b m:Int} (hg:gOk ops σ.s gd:=by first | exact trivial | exact rfl) (hd:dB X.n dst=true:=by exact rfl) (hx:evC σ.s x= .one (.v (.int k a)):=by exact rfl) (hy:evC σ.s y= .one (.v (.int k' b)):=by exact rfl) (hi:decide (0≤b)=true:=by exact rfl) (hc:a.fdiv (2^min b.toNat k.bits)=m:=by first | assumption | exact rfl) (hl:RunK P X ops l (σ.app dst ⟨.one (.v (.int k m)),[],[],none⟩) (fun es σ'=>K (⟨.one (.v (.int k m)),[],[],none⟩::es) σ')):
  RunK P X ops (⟨dst,.binOp .shr t x y u,ty,pos,af,gd⟩::l) σ K:=u_shr hg hd hx hy hi hc hl
theorem v_binL {op:BinOp} {t u:TypeId} {x y:Operand} {k:IntKind} {a b:Int} {v:Value} (hg:gOk ops σ.s gd:=by first | exact trivial | exact rfl) (hd:dB X.n dst=true:=by exact rfl) (hx:evC σ.s x= .one (.v (.int k a)):=by exact rfl) (hy:evC σ.s y= .one (.v (.int k b)):=by exact rfl) (hc:binR op k a b=some v:=by first | assumption | exact (rfl:_=some (Value.int _ 1)) | exact (rfl:_=some (Value.int _ 2)) | exact (rfl:_=some (Value.int _ 3)) | exact (rfl:_=some (Value.int _ 0)) | exact (rfl:_=some (Value.int _ 4)) | exact (rfl:_=some (Value.int _ 5)) | exact (rfl:_=some (Value.bool true)) | exact (rfl:_=some (Value.bool false)) | exact rfl) (hl:RunK P X ops l (σ.app dst ⟨.one (.v v),[],[],none⟩) (fun es σ'=>K (⟨.one (.v v),[],[],none⟩::es) σ')):
  RunK P X ops (⟨dst,.binOp op t x y u,ty,pos,af,gd⟩::l) σ K:=u_bin hg hd hx hy hc hl
theorem v_allocAt (n:Nat) {d:Nat} {t:TypeId} {zv:Value} [hZ:Zer P t zv] (hg:gOk ops σ.s gd:=by first | exact trivial | exact rfl) (hd:dB X.n (some d)=true:=by exact rfl) (hf:(Nat.beq (σ.sz (d+n)) 0&&!zv.cells.toList.isEmpty)=true:=by exact rfl) (hl:RunK P X ops l (σ.app (some d) ⟨.one (.ptr (d+n) 0),[],[],some (d+n,zv.cells.toList.map .v)⟩) (fun es σ'=>K (⟨.one (.ptr (d+n) 0),[],[],some (d+n,zv.cells.toList.map .v)⟩::es) σ')):
  RunK P X ops (⟨some d,.alloc t,ty,pos,af,gd⟩::l) σ K:=u_allocAt n hg hd hf hl
theorem v_boxAt (n:Nat) {d:Nat} {t:TypeId} {x:Operand} {av:AV} (hg:gOk ops σ.s gd:=by first | exact trivial | exact rfl) (hd:dB X.n (some d)=true:=by exact rfl) (hx:evC σ.s x=av:=by exact rfl) (hc:((isAggB av || Nat.beq (acells av).length 1)&&(acells av).all nlB&&Nat.beq (σ.sz (d+n)) 0&&!(acells av).isEmpty)=true:=by exact rfl) (hl:RunK P X ops l (σ.app (some d) ⟨.one (.ptr (d+n) 0),[],[],some (d+n,acells av)⟩) (fun es σ'=>K (⟨.one (.ptr (d+n) 0),[],[],some (d+n,acells av)⟩::es) σ')):
  RunK P X ops (⟨some d,.box t x,ty,pos,af,gd⟩::l) σ K:=u_boxAt n hg hd hx hc hl
theorem v_indexAddrTo (o:Nat) {t:TypeId} {x y:Operand} {len:Nat} {agg:Bool} {n:Nat} [hF:Ary P t len agg n] {k off:Nat} {ik:IntKind} {i:Int} (hg:gOk ops σ.s gd:=by first | exact trivial | exact rfl) (hd:dB X.n dst=true:=by exact rfl) (hx:evC σ.s x= .one (.ptr k off):=by exact rfl) (hy:evC σ.s y= .one (.v (.int ik i)):=by exact rfl) (hc:(decide (0≤i)&&decide (i<len)&&Nat.beq (off+i.toNat*n) o)=true:=by exact rfl) (hl:RunK P X ops l (σ.app dst ⟨.one (.ptr k o),[],[],none⟩) (fun es σ'=>K (⟨.one (.ptr k o),[],[],none⟩::es) σ')):
  RunK P X ops (⟨dst,.indexAddr t x y,ty,pos,af,gd⟩::l) σ K:=u_indexAddrTo o hg hd hx hy hc hl
theorem v_call {A:World→Prop} {c:Call} {f:FuncId} [hF:Fun P f] {as:List AV} {R:AV} (hA:A X.W0) (hc:Ctr P A f as R) (hg:gOk ops σ.s gd:=by first | exact trivial | exact rfl) (hd:dB X.n dst=true:=by exact rfl) (hcl:calleeOf σ.s c.callee=some (f,[]):=by exact rfl) (has:Ents (c.args.toList.map (evC σ.s)) as:=by first | exact Ents.of_eq rfl | ((repeat (first | exact Ents.nil' rfl | (refine Ents.cons' rfl ?_ ?_;focus (first | exact Ent.of_eq rfl | (refine Ent.agg' rfl ?_;(repeat (first | exact EntL.nil' rfl | (refine EntL.cons' rfl ?_ ?_;focus (first | exact EntC.of_eq rfl | (refine EntC.q rfl ?_;omega) | exact Z0 _ | exact Z2 _ | exact EntC.z0 (k:=0) | exact EntC.z1 (k:=0) | exact EntC.z2 (k:=0) | exact EntC.z0 | exact EntC.z1 | exact EntC.z2))));done) | (refine Ent.one' rfl ?_;(first | exact EntC.of_eq rfl | (refine EntC.q rfl ?_;omega) | exact Z0 _ | exact Z2 _ | exact EntC.z0 (k:=0) | exact EntC.z1 (k:=0) | exact EntC.z2 (k:=0) | exact EntC.z0 | exact EntC.z1 | exact EntC.z2))))));(first | done | fail))) (hl:RunK P X ops l (σ.app dst ⟨R,[],[],none⟩) (fun es σ'=>K (⟨R,[],[],none⟩::es) σ')):
  RunK P X ops (⟨dst,.call c,ty,pos,af,gd⟩::l) σ K:=u_call hA hg hd hcl has hc hl
theorem v_callE {A:World→Prop} {c:Call} {f:FuncId} [hF:Fun P f] {as:List AV} {R:AV} (hA:A X.W0) (hc:Ctr P A f as R) (hg:gOk ops σ.s gd:=by first | exact trivial | exact rfl) (hd:dB X.n dst=true:=by exact rfl) (hcl:calleeOf σ.s c.callee=some (f,[]):=by exact rfl) (has:Ents (c.args.toList.map (evC σ.s)) as:=by exact Ents.of_eq rfl) (hl:RunK P X ops l (σ.app dst ⟨R,[],[],none⟩) (fun es σ'=>K (⟨R,[],[],none⟩::es) σ')):
  RunK P X ops (⟨dst,.call c,ty,pos,af,gd⟩::l) σ K:=u_call hA hg hd hcl has hc hl
theorem v_callM {A:World→Prop} (hA:A X.W0) {c:Call} {f:FuncId} [hF:Fun P f] {as caps:List AV} {k:Nat} {b d:List C} {R:AV} (hc:CtrM P A f as [(k,b,d)] R) (hg:gOk ops σ.s gd:=by first | exact trivial | exact rfl) (hd:dB X.n dst=true:=by exact rfl) (hcl:calleeOf σ.s c.callee=some (f,caps):=by exact rfl)
  (has:Ents (c.args.toList.map (evC σ.s)++caps) as:=by exact Ents.of_eq rfl) (hrw:rdL (σ.m k) 0 b.length=b:=by exact rfl)
  (hb:((([]:List (Nat×List C)).all (fun p=>blkB σ.sz p.2.length p)&& [(k,b,d)].all (fun p=>blkB σ.sz p.2.2.length (p.1,p.2.1))&&((([]:List (Nat×List C)).map (·.1)++ [(k,b,d)].map (·.1)).all fun k=>(c.args.toList.map (evC σ.s)++caps).any (isPtr k)))=true):=by exact rfl)
  (hl:RunK P X ops l (σ.app dst ⟨R,[(k,0,b)],[(k,0,d)],none⟩) (fun es σ'=>K (⟨R,[(k,0,b)],[(k,0,d)],none⟩::es) σ')):
  RunK P X ops (⟨dst,.call c,ty,pos,af,gd⟩::l) σ K:=
 u_callM hA (ro:= []) (rw:= [(k,b,d)]) hg hd hcl has hc (fun p hp=>by cases hp) (fun p hp=>by obtain rfl:=List.mem_singleton.1 hp;exact hrw) hb (by simp) hl
theorem v_callN {A:World→Prop} (hA:A X.W0) {c:Call} {f:FuncId} [hF:Fun P f] {as:List AV} {cs:List C} {d:Nat} (hc:CtrN P A f as cs) (hg:gOk ops σ.s gd:=by first | exact trivial | exact rfl) (hd:dB X.n (some d)=true:=by exact rfl) (hf:(Nat.beq (σ.sz d) 0&&!cs.isEmpty)=true:=by exact rfl) (hcl:calleeOf σ.s c.callee=some (f,[]):=by exact rfl)
  (has:Ents (c.args.toList.map (evC σ.s)) as:=by exact Ents.of_eq rfl) (hq:cs.all nlB=true:=by exact rfl)
  (hl:RunK P X ops l (σ.app (some d) ⟨.one (.ptr d 0),[],[],some (d,cs)⟩) (fun es σ'=>K (⟨.one (.ptr d 0),[],[],some (d,cs)⟩::es) σ')):
  RunK P X ops (⟨some d,.call c,ty,pos,af,gd⟩::l) σ K:=u_callN hA hg hd hf hcl has hc hq hl
theorem v_eqB {t u:TypeId} {x y:Operand} {a b c:Bool} [hT:BoolT P t] (hg:gOk ops σ.s gd:=by first | exact trivial | exact rfl) (hd:dB X.n dst=true:=by exact rfl) (hx:evC σ.s x= .one (.v (.bool a)):=by exact rfl) (hy:evC σ.s y= .one (.v (.bool b)):=by exact rfl) (hc:(a==b)=c:=by first | assumption | exact beq_self_eq_true _ | exact rfl)
  (hl:RunK P X ops l (σ.app dst ⟨.one (.v (.bool c)),[],[],none⟩) (fun es σ'=>K (⟨.one (.v (.bool c)),[],[],none⟩::es) σ')):
  RunK P X ops (⟨dst,.binOp .eql t x y u,ty,pos,af,gd⟩::l) σ K:=by
 subst hc
 exact u_eqBool (hT:=hT) hg hd hx hy hl
end
theorem f_one {P:Program} {r:ResultVar} {R a:AV} {σ:St} (h:ResIs P σ r a:=by first | exact ResIs.tmp rfl | exact ResIs.cell inferInstance rfl rfl rfl rfl) (hE:Ent a R:=by (first | exact Ent.of_eq rfl | (refine Ent.agg' rfl ?_;(repeat (first | exact EntL.nil' rfl | (refine EntL.cons' rfl ?_ ?_;focus (first | exact EntC.of_eq rfl | (refine EntC.q rfl ?_;omega) | exact Z0 _ | exact Z2 _ | exact EntC.z0 (k:=0) | exact EntC.z1 (k:=0) | exact EntC.z2 (k:=0) | exact EntC.z0 | exact EntC.z1 | exact EntC.z2))));done) | (refine Ent.one' rfl ?_;(first | exact EntC.of_eq rfl | (refine EntC.q rfl ?_;omega) | exact Z0 _ | exact Z2 _ | exact EntC.z0 (k:=0) | exact EntC.z1 (k:=0) | exact EntC.z2 (k:=0) | exact EntC.z0 | exact EntC.z1 | exact EntC.z2)))):Fin P [r] [] R σ:=fin_one h hE
theorem f_two {P:Program} {r1 r2:ResultVar} {R a b:AV} {σ:St} (h1:ResIs P σ r1 a:=by first | exact ResIs.tmp rfl | exact ResIs.cell inferInstance rfl rfl rfl rfl) (h2:ResIs P σ r2 b:=by first | exact ResIs.tmp rfl | exact ResIs.cell inferInstance rfl rfl rfl rfl) (ha:([a,b].all fun a=>match a with | .tup _=>false | _=>true)=true:=by exact rfl) (hE:Ent (.tup [a,b]) R:=by first | exact Ent.of_eq rfl | (refine Ent.tup rfl ?_;(repeat (first | exact EntT.nil | (refine EntT.cons ?_ rfl rfl ?_;focus (first | exact Ent.of_eq rfl | (refine Ent.agg' rfl ?_;(repeat (first | exact EntL.nil' rfl | (refine EntL.cons' rfl ?_ ?_;focus (first | exact EntC.of_eq rfl | (refine EntC.q rfl ?_;omega) | exact Z0 _ | exact Z2 _ | exact EntC.z0 (k:=0) | exact EntC.z1 (k:=0) | exact EntC.z2 (k:=0) | exact EntC.z0 | exact EntC.z1 | exact EntC.z2))));done) | (refine Ent.one' rfl ?_;(first | exact EntC.of_eq rfl | (refine EntC.q rfl ?_;omega) | exact Z0 _ | exact Z2 _ | exact EntC.z0 (k:=0) | exact EntC.z1 (k:=0) | exact EntC.z2 (k:=0) | exact EntC.z0 | exact EntC.z1 | exact EntC.z2))))));(first | done | fail))):Fin P [r1,r2] [] R σ:=fin_two h1 h2 ha hE
theorem f_oneM {P:Program} {r:ResultVar} {R a:AV} {σ:St} {k:Nat} {b c:List C} (h:ResIs P σ r a:=by first | exact ResIs.tmp rfl | exact ResIs.cell inferInstance rfl rfl rfl rfl) (hE:Ent a R:=by (first | exact Ent.of_eq rfl | (refine Ent.agg' rfl ?_;(repeat (first | exact EntL.nil' rfl | (refine EntL.cons' rfl ?_ ?_;focus (first | exact EntC.of_eq rfl | (refine EntC.q rfl ?_;omega) | exact Z0 _ | exact Z2 _ | exact EntC.z0 (k:=0) | exact EntC.z1 (k:=0) | exact EntC.z2 (k:=0) | exact EntC.z0 | exact EntC.z1 | exact EntC.z2))));done) | (refine Ent.one' rfl ?_;(first | exact EntC.of_eq rfl | (refine EntC.q rfl ?_;omega) | exact Z0 _ | exact Z2 _ | exact EntC.z0 (k:=0) | exact EntC.z1 (k:=0) | exact EntC.z2 (k:=0) | exact EntC.z0 | exact EntC.z1 | exact EntC.z2)))) (hz:σ.sz k=c.length:=by exact rfl) (hm:EntL (rdL (σ.m k) 0 c.length) c:=by first | exact EntL.of_eq rfl | (repeat (first | exact EntL.nil' rfl | refine EntL.cons' rfl (by first | exact EntC.of_eq rfl | exact EntC.q rfl (by omega) | exact EntC.z0 (k:=0) | exact EntC.z1 (k:=0) | exact EntC.z2 (k:=0)) ?_))) (hn:c.all nlB=true:=by exact rfl):Fin P [r] [(k,b,c)] R σ:=fin_oneM h hE hz hm hn
theorem f_ro {P:Program} {r:ResultVar} {R a:AV} {σ:St} {bs:List (Nat×List C×List C)} (h:ResIs P σ r a:=by first | exact ResIs.tmp rfl | exact ResIs.cell inferInstance rfl rfl rfl rfl) (hE:Ent a R:=by (first | exact Ent.of_eq rfl | (refine Ent.agg' rfl ?_;(repeat (first | exact EntL.nil' rfl | (refine EntL.cons' rfl ?_ ?_;focus (first | exact EntC.of_eq rfl | (refine EntC.q rfl ?_;omega) | exact Z0 _ | exact Z2 _ | exact EntC.z0 (k:=0) | exact EntC.z1 (k:=0) | exact EntC.z2 (k:=0) | exact EntC.z0 | exact EntC.z1 | exact EntC.z2))));done) | (refine Ent.one' rfl ?_;(first | exact EntC.of_eq rfl | (refine EntC.q rfl ?_;omega) | exact Z0 _ | exact Z2 _ | exact EntC.z0 (k:=0) | exact EntC.z1 (k:=0) | exact EntC.z2 (k:=0) | exact EntC.z0 | exact EntC.z1 | exact EntC.z2)))) (hb: ∀p∈bs,σ.sz p.1=p.2.2.length∧rdL (σ.m p.1) 0 p.2.2.length=p.2.2∧p.2.2.all nlB=true:=by exact fun p hp=>by simp only [List.mem_cons,List.not_mem_nil,or_false] at hp;rcases hp with rfl | rfl<;>exact ⟨rfl,rfl,rfl⟩):Fin P [r] bs R σ:=fin_ro h hE hb
end Go.Proofs.YtemmbphdcgdboaaGreatDoor
