/-
  Several texts in one: El, Em, En.
-/
import Derived.Test.YteiibidmicgjoaaGreatDoorEx
import Derived.OwnWalk
namespace Go.Proofs.YteiibidmicgjoaaGreatDoor
open Go.RowKit
set_option linter.unusedVariables false
set_option linter.unusedSimpArgs false
theorem fin_oneM {P:Program} {r:ResultVar} {R a:AV} {σ:St} {k:Nat} {b c:List C} (h:ResIs P σ r a) (hE:Ent a R) (hz:σ.sz k=c.length) (hm:EntL (rdL (σ.m k) 0 c.length) c) (hn:c.all nlB=true):Fin P [r] [(k,b,c)] R σ:=
 ⟨⟨[a],.cons h .nil,.inl rfl,hE⟩,fun p hp=>by
  obtain rfl:=List.mem_singleton.1 hp
  refine ⟨hz,fun i d hi=>?_⟩
  have hlt:=(List.getElem?_eq_some_iff.1 hi).1
  have h2:=rdL_get (σ.m k) c.length 0 i hlt
  rw [Nat.zero_add] at h2
  exact ⟨hm.get i _ d h2 hi,nlB_ok (List.all_eq_true.1 hn d (List.mem_of_getElem? hi))⟩⟩
theorem binLt {k:IntKind} {a b:Int} {c:Bool} (h:decide (a<b)=c):binR .lss k a b=some (.bool c):=by rw [←h];rfl
theorem binGe {k:IntKind} {a b:Int} {c:Bool} (h:decide (a≥b)=c):binR .geq k a b=some (.bool c):=by rw [←h];rfl
theorem binEq {k:IntKind} {a b:Int} {c:Bool} (h:decide (a=b)=c):binR .eql k a b=some (.bool c):=by
 rw [←h]
 show some (Value.bool (a==b))=_
 congr 2
theorem binRem {k:IntKind} {a b:Int} (h:b≠0):binR .rem k a b=some (.int k (a.tmod b)):=if_neg h
theorem binAdd {k:IntKind} {a b c:Int} (h:k.wrap (a+b)=c):binR .add k a b=some (.int k c):=by rw [←h];rfl
theorem binSub {k:IntKind} {a b c:Int} (h:k.wrap (a-b)=c):binR .sub k a b=some (.int k c):=by rw [←h];rfl
def renC (θ:Nat→Nat):C→C
 | .ptr k o=> .ptr (θ k) o
 | .fn f caps=> .fn f (caps.map fun p=>(θ p.1,p.2))
 | c=>c
def renA (θ:Nat→Nat):AV→AV
 | .one c=> .one (renC θ c)
 | .agg cs=> .agg (cs.map (renC θ))
 | a=>a
theorem cc_ren {W0:World} {μ sz:Nat→Nat} {w:World} {x:Value} {θ:Nat→Nat} {c:C} (h:cc W0 μ sz w x (renC θ c)):cc W0 (fun i=>μ (θ i)) (fun i=>sz (θ i)) w x c:=by
 cases c with
 | fn f caps=>
   refine ⟨?_,fun p hp=>h.2 (θ p.1,p.2) (List.mem_map.2 ⟨p,hp,rfl⟩)⟩
   rw [h.1,List.map_map]
   rfl
 | q r j i=>
   match i with
   | 0=>exact h
   | 1=>exact h
   | _+2=>exact h
 | _=>exact h
theorem cv_ren {W0:World} {μ sz:Nat→Nat} {w:World} {x:Value} {θ:Nat→Nat} {a:AV} (hn:notTup a=true) (h:cv W0 μ sz w x (renA θ a)):cv W0 (fun i=>μ (θ i)) (fun i=>sz (θ i)) w x a:=by
 cases a with
 | one c=>exact cc_ren h
 | agg cs=>
   obtain ⟨l,rfl,hl⟩:=h
   refine ⟨l,rfl,by rw [hl.1];simp,fun i a c ha hc=>cc_ren (hl.2 i a _ ha (by rw [List.getElem?_map,hc];rfl))⟩
 | tup l=>cases hn
 | junk=>trivial
theorem blk_free {W0:World} {μ sz μ' sz':Nat→Nat} {w:World} {k k':Nat} {cs:List C} (h:BlkAt W0 μ sz w k cs) (hk:μ' k'=μ k) (hp:cs.all pfC=true):BlkAt W0 μ' sz' w k' cs:=by
 obtain ⟨a,e,h1,h2,h3⟩:=h
 exact ⟨a,e,by rw [hk];exact h1,h2.map fun x c hc hh=>hh.free (List.all_eq_true.1 hp c hc),h3⟩
theorem CtrM.ren {P:Program} {A:World→Prop} {f:FuncId} {args:List AV} {bs:List (Nat×List C×List C)} {R:AV} (h:CtrM P A f args bs R) (θ:Nat→Nat) (hθ: ∀p∈bs,∀q∈bs,θ p.1=θ q.1→p.1=q.1) (hp:(pf R&&bs.all fun p=>p.2.1.all pfC&&p.2.2.all pfC)=true) (ht:args.all notTup=true):
  CtrM P A f (args.map (renA θ)) (bs.map fun p=>(θ p.1,p.2)) R:=by
 intro W0 w μ sz vs hA hk hb hi hv
 simp only [Bool.and_eq_true,List.all_eq_true] at hp
 obtain ⟨hR,hpb⟩:=hp
 have hpa: ∀p∈bs,p.2.1.all pfC=true∧p.2.2.all pfC=true:=fun p hpm=>⟨List.all_eq_true.2 (hpb p hpm).1,List.all_eq_true.2 (hpb p hpm).2⟩
 refine (h W0 w (fun i=>μ (θ i)) (fun i=>sz (θ i)) vs hA hk (fun p hpm=>?_) (fun p hpm q hqm hpq=>?_) ?_).mono ?_
 ·obtain ⟨h1,h2,h3,h4⟩:=hb (θ p.1,p.2) (List.mem_map.2 ⟨p,hpm,rfl⟩)
  exact ⟨h1,h2,h3,blk_free h4 rfl (hpa p hpm).1⟩
 ·exact hθ p hpm q hqm (hi (θ p.1,p.2) (List.mem_map.2 ⟨p,hpm,rfl⟩) (θ q.1,q.2) (List.mem_map.2 ⟨q,hqm,rfl⟩) hpq)
 ·refine ⟨by rw [hv.1];simp,fun i v a hvi ha=>cv_ren (List.all_eq_true.1 ht a (List.mem_of_getElem? ha)) (hv.2 i v _ hvi (by rw [List.getElem?_map,ha];rfl))⟩
 ·rintro e w' ⟨r,rfl,h1,h2,h3⟩
  refine ⟨r,rfl,⟨h1.os,h1.tape,h1.output,h1.size,fun g hg hD=>h1.block g hg ?_⟩,h2.free hR,fun p hpm=>?_⟩
  ·rintro ⟨p,hpm,rfl⟩
   exact hD ⟨(θ p.1,p.2),List.mem_map.2 ⟨p,hpm,rfl⟩,rfl⟩
  ·obtain ⟨q,hq,rfl⟩:=List.mem_map.1 hpm
   exact blk_free (h3 q hq) rfl (hpa q hq).2
theorem CtrM.at1 {P:Program} {A:World→Prop} {f:FuncId} {k0:Nat} {args:List AV} {b c:List C} {R:AV} (h:CtrM P A f args [(k0,b,c)] R) (k:Nat) (hp:(pf R&& [(k0,b,c)].all fun p=>p.2.1.all pfC&&p.2.2.all pfC)=true) (ht:args.all notTup=true):
  CtrM P A f (args.map (renA fun _=>k)) [(k,b,c)] R:=
 h.ren (fun _=>k) (fun p hp q hq _=>by rw [List.mem_singleton.1 hp,List.mem_singleton.1 hq]) hp ht
def LoopN (P:Program) (X:Ctx) (c:Code) (Q:Exit→St→Prop):Nat→St→Prop
 | 0,_=>False
 | n+1,σ=>Aw P X c σ (thenA (LoopN P X c Q n) Q)
theorem aw_loopN {P:Program} {X:Ctx} {σ:St} {Q:Exit→St→Prop} {c:Code} (n:Nat) (h:LoopN P X c Q n σ):Aw P X (.loop c) σ Q:=
 aw_loop (LoopN P X c Q) h fun n σ hI=>by
  cases n with
  | zero=>exact hI.elim
  | succ n=>
    refine Aw.mono (show Aw P X c σ (thenA (LoopN P X c Q n) Q) from hI) fun e σ' hh=>?_
    cases e with
    | normal=>exact ⟨n,Nat.lt_succ_self n,hh⟩
    | _=>exact hh
section
variable {P:Program} {X:Ctx} {ops l:List Oper} {σ:St} {K:List Eff→St→Prop} {ty:TypeId} {pos:String} {af:Array Edge} {gd:Option (Nat×Bool)}
end
theorem pure_min {P:Program} {dst:Option Tmp} {ty:TypeId} {pos:String} {af:Array Edge} {gd:Option (Nat×Bool)} {s:Nat→AV} {x y:Operand} {ts:Array TypeId} {k k':IntKind} {a b:Int} (hx:evC s x= .one (.v (.int k a))) (hy:evC s y= .one (.v (.int k' b))):Pure P ⟨dst,.call ⟨.builtin .min,#[x,y],ts⟩,ty,pos,af,gd⟩ s (.one (.v (.int k (if b<a then b else a)))):=fun W0 μ sz w ρ hρ=>by
 have h1:=hρ x (by simp [Op.operands,Call.operands])
 rw [hx] at h1
 replace h1:ρ x= .int k a:=h1
 have h2:=hρ y (by simp [Op.operands,Call.operands])
 rw [hy] at h2
 replace h2:ρ y= .int k' b:=h2
 exact ⟨_,by simp [execOp,resolve,invoke,builtin,Builtin.min_,Builtin.min2,h1,h2],rfl⟩
theorem pure_max {P:Program} {dst:Option Tmp} {ty:TypeId} {pos:String} {af:Array Edge} {gd:Option (Nat×Bool)} {s:Nat→AV} {x y:Operand} {ts:Array TypeId} {k k':IntKind} {a b:Int} (hx:evC s x= .one (.v (.int k a))) (hy:evC s y= .one (.v (.int k' b))):Pure P ⟨dst,.call ⟨.builtin .max,#[x,y],ts⟩,ty,pos,af,gd⟩ s (.one (.v (.int k (if a<b then b else a)))):=fun W0 μ sz w ρ hρ=>by
 have h1:=hρ x (by simp [Op.operands,Call.operands])
 rw [hx] at h1
 replace h1:ρ x= .int k a:=h1
 have h2:=hρ y (by simp [Op.operands,Call.operands])
 rw [hy] at h2
 replace h2:ρ y= .int k' b:=h2
 exact ⟨_,by simp [execOp,resolve,invoke,builtin,Builtin.max_,Builtin.max2,h1,h2],rfl⟩
end Go.Proofs.YteiibidmicgjoaaGreatDoor
namespace Go.Proofs.YteiibidmicgjoaaGreatDoor
open Go.RowKit
set_option linter.unusedVariables false
set_option linter.unusedSimpArgs false
theorem cn_kp {X:Ctx} {μ:Nat→Nat} {σ:St} {a:Act} {w w':World} (h:Cn X μ σ a w) (k:Kp w w'):Cn X μ σ a w':=by
 have kl:=Kl.of_kp k
 have ext: ∀i,σ.sz i≠0→μ i=μ i∧σ.sz i≠0:=fun i hi=>⟨rfl,hi⟩
 refine ⟨h.w0.tr k,h.kd.trans (.of_kp k),h.defers,h.size,fun t=>(h.slot t).mono kl ext,fun i hi=>?_,h.inj,h.own,h.par⟩
 obtain ⟨cs,e,h1,h2,h3⟩:=h.blk i hi
 exact ⟨cs,e,by rw [k.block _ (Array.getElem?_eq_some_iff.1 h1).1];exact h1,h2,fun o x hx=>⟨(h3 o x hx).1.mono kl ext,(h3 o x hx).2⟩⟩
section
variable {P:Program} {ops:Array Oper} {Q:Exit→Act→World→Prop} {rest:List Oper} {o:Oper} {a:Act} {w w':World} {v:Value}
theorem wl_val (hg:o.guard=none) (hr:(execOp a.eval o).run P w= .ok (.value v) w') (h:wpList P ops Q rest (a.put o.dst v) w'):wpList P ops Q (o::rest) a w:=
 wpList_plain hg fun K hK=>by
  unfold Oper.wp
  rw [hr]
  exact hK _ _ h
theorem wl_skip (hg:o.guard=none) (hr:(execOp a.eval o).run P w= .ok .skip w') (h:wpList P ops Q rest (a.put o.dst undef) w'):wpList P ops Q (o::rest) a w:=
 wpList_plain hg fun K hK=>by
  unfold Oper.wp
  rw [hr]
  exact hK _ _ h
end
theorem ev_same {a:Act} {d:Tmp} {v:Value} (h:d<a.tmps.size):(a.put (some d) v).eval (.tmp d)=v:=by
 simp [Act.eval,Act.put,Array.getD_eq_getD_getElem?,h]
theorem ev_other {a:Act} {d t:Tmp} {v:Value} (h:d≠t):(a.put (some d) v).eval (.tmp t)=a.eval (.tmp t):=by
 simp [Act.eval,Act.put,Array.getElem?_setIfInBounds_ne h]
theorem ev_put {a:Act} {d t:Tmp} {v:Value} :(a.put (some d) v).eval (.tmp t)=if d=t then (if d<a.tmps.size then v else undef) else a.eval (.tmp t):=by
 by_cases h:d=t
 ·subst h
  rw [if_pos rfl]
  by_cases hl:d<a.tmps.size
  ·rw [if_pos hl];exact ev_same hl
  ·rw [if_neg hl]
   simp [Act.eval,Act.put,Array.getD_eq_getD_getElem?,hl]
 ·rw [if_neg h];exact ev_other h
theorem put_size {a:Act} {x:Option Tmp} {v:Value} :(a.put x v).tmps.size=a.tmps.size:=by cases x<;>simp [Act.put]
theorem one_limb (m:Nat):toL (2^m)=(List.replicate (m/32+1) 0).set (m/32) (2^(m % 32))∧Limbs ((List.replicate (m/32+1) 0).set (m/32) (2^(m % 32))):=by
 have hlt:2^(m % 32)<4294967296:=by
  have:(4294967296:Nat)=2^32:=rfl
  rw [this]
  exact Nat.pow_lt_pow_right (by decide) (Nat.mod_lt _ (by decide))
 have hL:Limbs ((List.replicate (m/32+1) 0).set (m/32) (2^(m % 32))):=by
  intro x hx
  rcases List.mem_or_eq_of_mem_set hx with h | h
  ·have:=List.eq_of_mem_replicate h
   omega
  ·omega
 refine ⟨?_,hL⟩
 have hval:val ((List.replicate (m/32+1) 0).set (m/32) (2^(m % 32)))=2^m:=by
  have h:=val_set (List.replicate (m/32+1) 0) (m/32) (2^(m % 32)) (by simp)
  rw [val_replicate] at h
  have h0:(List.replicate (m/32+1) 0).getD (m/32) 0=0:=by simp [List.getD]
  rw [h0] at h
  have hp:2^m=4294967296^(m/32)*2^(m % 32):=by
   have:(4294967296:Nat)=2^32:=rfl
   rw [this,←Nat.pow_mul,←Nat.pow_add,Nat.div_add_mod]
  rw [hp]
  omega
 rw [←hval,toL_val hL]
 have hsn:(List.replicate (m/32+1) 0).set (m/32) (2^(m % 32))=List.replicate (m/32) 0++ [2^(m % 32)]:=by
  rw [List.replicate_succ',List.set_append_right _ _ (by simp)]
  simp
 rw [hsn,trimL_snoc _ _ (by have:=Nat.two_pow_pos (m % 32);omega)]
section
variable {P:Program} {X:Ctx} {ops l:List Oper} {σ:St} {K:List Eff→St→Prop} {dst:Option Tmp} {ty:TypeId} {pos:String} {af:Array Edge} {gd:Option (Nat×Bool)}
theorem u_max {x y:Operand} {ts:Array TypeId} {k k':IntKind} {a b m:Int} (hg:gOk ops σ.s gd) (hd:dB X.n dst=true) (hx:evC σ.s x= .one (.v (.int k a))) (hy:evC σ.s y= .one (.v (.int k' b))) (hc:(if a<b then b else a)=m)
  (hl:RunK P X ops l (σ.app dst ⟨.one (.v (.int k m)),[],[],none⟩) (fun es σ'=>K (⟨.one (.v (.int k m)),[],[],none⟩::es) σ')):RunK P X ops (⟨dst,.call ⟨.builtin .max,#[x,y],ts⟩,ty,pos,af,gd⟩::l) σ K:=by
 subst hc
 exact u_pure (o:=⟨dst,.call ⟨.builtin .max,#[x,y],ts⟩,ty,pos,af,gd⟩) hg hd (pure_max hx hy) hl
theorem u_min {x y:Operand} {ts:Array TypeId} {k k':IntKind} {a b m:Int} (hg:gOk ops σ.s gd) (hd:dB X.n dst=true) (hx:evC σ.s x= .one (.v (.int k a))) (hy:evC σ.s y= .one (.v (.int k' b))) (hc:(if b<a then b else a)=m)
  (hl:RunK P X ops l (σ.app dst ⟨.one (.v (.int k m)),[],[],none⟩) (fun es σ'=>K (⟨.one (.v (.int k m)),[],[],none⟩::es) σ')):RunK P X ops (⟨dst,.call ⟨.builtin .min,#[x,y],ts⟩,ty,pos,af,gd⟩::l) σ K:=by
 subst hc
 exact u_pure (o:=⟨dst,.call ⟨.builtin .min,#[x,y],ts⟩,ty,pos,af,gd⟩) hg hd (pure_min hx hy) hl
theorem pure_shr {s:Nat→AV} {t u:TypeId} {x y:Operand} {k k':IntKind} {a b:Int} (hx:evC s x= .one (.v (.int k a))) (hy:evC s y= .one (.v (.int k' b))) (hb:0≤b):Pure P ⟨dst,.binOp .shr t x y u,ty,pos,af,gd⟩ s (.one (.v (.int k (a.fdiv (2^min b.toNat k.bits))))):=fun W0 μ sz w ρ hρ=>by
 have h1:=hρ x (by simp [Op.operands])
 rw [hx] at h1
 replace h1:ρ x= .int k a:=h1
 have h2:=hρ y (by simp [Op.operands])
 rw [hy] at h2
 replace h2:ρ y= .int k' b:=h2
 have: ¬b<0:=by omega
 exact ⟨_,by simp [execOp,h1,h2,eqGuard,binOp,Op.shift,this],rfl⟩
theorem u_shr {t u:TypeId} {x y:Operand} {k k':IntKind} {a b m:Int} (hg:gOk ops σ.s gd) (hd:dB X.n dst=true) (hx:evC σ.s x= .one (.v (.int k a))) (hy:evC σ.s y= .one (.v (.int k' b))) (hi:decide (0≤b)=true) (hc:a.fdiv (2^min b.toNat k.bits)=m)
  (hl:RunK P X ops l (σ.app dst ⟨.one (.v (.int k m)),[],[],none⟩) (fun es σ'=>K (⟨.one (.v (.int k m)),[],[],none⟩::es) σ')):RunK P X ops (⟨dst,.binOp .shr t x y u,ty,pos,af,gd⟩::l) σ K:=by
 subst hc
 exact u_pure (o:=⟨dst,.binOp .shr t x y u,ty,pos,af,gd⟩) hg hd (pure_shr hx hy (of_decide_eq_true hi)) hl
end
end Go.Proofs.YteiibidmicgjoaaGreatDoor
namespace Go.Proofs.YteiibidmicgjoaaGreatDoor
open Go.RowKit
set_option linter.unusedVariables false
set_option linter.unusedSimpArgs false
def CtrN (P:Program) (A:World→Prop) (f:FuncId) (args:List AV) (cs:List C):Prop:=
 ∀(W0 w:World) (μ sz:Nat→Nat) (vs:List Value),A W0→Kp W0 w→All2 (cv W0 μ sz w) vs args→
  Calls P f vs.toArray w fun e w'=> ∃(g:Nat) (a:Array Value) (ty:TypeId),e= .returned (.pointer (some ⟨g,0,none⟩))∧w.heap.size≤g∧Kp w w'∧w'.heap[g]?=some (.cells a ty (0,0))∧All2 (cc W0 μ sz w') a.toList cs
theorem CtrN.weak {P:Program} {A:World→Prop} {f:FuncId} {args args':List AV} {cs:List C} (h:CtrN P A f args cs) (ha:Ents args' args):CtrN P A f args' cs:=
 fun W0 w μ sz vs hA hk hv=>h W0 w μ sz vs hA hk (ha.all2 hv)
theorem ctrN_body {P:Program} {A:World→Prop} {f:FuncId} {fn:Func} {c:Code} {args:List AV} {cs:List C} {n:Nat} {rs:List ResultVar} (k:Nat) (hf:P.funcs[f]?=some fn) (hb:fn.body=some c) (hn:fn.ntmps=n) (hrs:fn.results=rs.toArray) (hle:Nat.ble args.length n=true)
  (hpf:cs.all pfC=true) (hin:(args.all fun a=>inA [] a)=true)
  (h: ∀(W0 base:World) (D:Nat→Prop) (μ0:Nat→Nat),A W0→Aw P ⟨W0,base,D,n,[],μ0⟩ c (stL (argS 0 args) []) (fun e σ=>(e= .normal∨e= .ret)∧Fin P rs [] (.one (.ptr k 0)) σ∧σ.sz k=cs.length∧ ∀(i:Nat) c,cs[i]?=some c→EntC (σ.m k i) c)):CtrN P A f args cs:=by
 intro W0 w μ sz vs hA hk hv
 subst hn
 have hn:=Nat.le_of_ble_eq_true hle
 let X:Ctx:=⟨W0,w,fun _=>False,fn.ntmps,[],μ⟩
 have hcn:CN X (stL (argS 0 args) []) { tmps:=vs.toArray++Array.replicate (fn.ntmps-vs.toArray.size) undef,defers:= [] } w:=by
  refine ⟨μ,hk,.refl _ _,rfl,?_,fun t=>?_,fun k hkz=>absurd rfl hkz,fun k k' hk1=>absurd rfl hk1,fun k hkz=>absurd rfl hkz,fun k hkp=>by cases hkp⟩
  ·have:=hv.1
   simp
   show _=fn.ntmps
   omega
  ·show cv W0 μ _ w _ (lk .junk (argS 0 args) t)
   rcases argS_lk (as:=args) (k:=0) (t:=t) with h1 | ⟨i,b,h1,h2,h3⟩
   ·rw [h1];trivial
   ·rw [h3]
    rw [Nat.zero_add] at h1
    subst h1
    have hil:t<vs.length:=by rw [hv.1];exact (List.getElem?_eq_some_iff.1 h2).1
    have hev:(vs.toArray++Array.replicate (fn.ntmps-vs.toArray.size) undef).getD t undef=vs[t]:=by
     simp [Array.getD_eq_getD_getElem?,Array.getElem?_append,hil]
    rw [hev]
    exact (hv.2 t _ b (List.getElem?_eq_getElem hil) h2).keep (List.all_eq_true.1 hin b (List.mem_of_getElem? h2)) fun k hk=>by cases hk
 refine calls_of_wp hf hb (wp_mono (h W0 w (fun _=>False) μ hA _ _ hcn) ?_)
 rintro e a' w' ⟨σ',⟨he,hfin,hz,hm⟩,μ',hcn'⟩
 obtain ⟨v,hv1,hv2⟩:=fin_results (fn:=fn) hcn' (by rw [hrs];exact hfin)
 obtain ⟨hv3,hv4⟩:v= .pointer (some ⟨μ' k,0,none⟩)∧σ'.sz k≠0:=hv2
 obtain ⟨ca,e',h3,h4,h5⟩:=hcn'.blk k hv4
 have hpost: ∃(g:Nat) (a:Array Value) (ty:TypeId),Ending.returned v= .returned (.pointer (some ⟨g,0,none⟩))∧w.heap.size≤g∧Kp w w'∧w'.heap[g]?=some (.cells a ty (0,0))∧All2 (cc W0 μ sz w') a.toList cs:=by
  refine ⟨μ' k,ca,e',by rw [hv3],?_,?_,h3,⟨by simp;rw [h4,hz],fun o x c hx hc=>?_⟩⟩
  ·rcases (hcn'.own k hv4).2 with h | h
   ·exact h
   ·exact h.elim
  ·have h2:=hcn'.kd
   exact ⟨h2.os,h2.tape,h2.output,h2.size,fun k hk=>h2.block k hk fun h=>h⟩
  ·rw [Array.getElem?_toList] at hx
   exact (hm o c hc _ _ _ _ _ (h5 o x hx).1).free (List.all_eq_true.1 hpf _ (List.mem_of_getElem? hc))
 rcases he with rfl | rfl
 ·exact ⟨hcn'.defers,v,hv1,hpost⟩
 ·exact ⟨hcn'.defers,v,hv1,hpost⟩
section
variable {P:Program} {X:Ctx} {ops l:List Oper} {σ:St} {K:List Eff→St→Prop}
variable {dst:Option Tmp} {ty:TypeId} {pos:String} {af:Array Edge} {gd:Option (Nat×Bool)} {s:Nat→AV} {z:Nat→Nat}
theorem sim_callN {A:World→Prop} (hA:A X.W0) {c:Call} {f:FuncId} [hF:Fun P f] {as:List AV} {cs:List C} {d:Nat} (hd: ∀t,dst=some t→t<X.n)
  (hcl:calleeOf s c.callee=some (f,[])) (has:c.args.toList.map (evC s)=as) (hc:CtrN P A f as cs) (hnl:cs.all nlB=true):
  Sim P X ⟨dst,.call c,ty,pos,af,gd⟩ s z ⟨.one (.ptr d 0),[],[],some (d,cs)⟩:=by
 intro σ hs hsz hrd hal a w hcn K Q hK
 obtain ⟨hid,hne⟩:=hal _ rfl
 obtain ⟨μ,hcn⟩:=hcn
 obtain ⟨callee,args,argTypes⟩:=c
 obtain ⟨al,rfl⟩: ∃al:List Operand,args=al.toArray:=⟨args.toList,by simp⟩
 cases callee with
 | invoke r m=>simp [calleeOf] at hcl
 | builtin b=>simp [calleeOf] at hcl
 | value fx=>
   have hfx:=hcn.ev fx
   replace hfx:=evC_le (o:=⟨dst,.call ⟨.value fx,al.toArray,argTypes⟩,ty,pos,af,gd⟩) hs (by simp [Op.operands,Call.operands]) hfx
   simp only [calleeOf] at hcl
   split at hcl
   ·rename_i f' caps' hev
    simp only [Option.some.injEq,Prod.mk.injEq,List.map_eq_nil_iff] at hcl
    obtain ⟨rfl,rfl⟩:=hcl
    rw [hev] at hfx
    obtain ⟨hf1,hf2⟩:=hfx
    obtain ⟨vs,hvs⟩: ∃vs:List Value,vs=al.map a.eval:=⟨_,rfl⟩
    have hv:All2 (cv X.W0 μ σ.sz w) vs as:=by
     subst hvs
     rw [←has]
     refine ⟨by simp,fun i v b hv hb=>?_⟩
     simp only [List.getElem?_map,Option.map_eq_some_iff] at hv hb
     obtain ⟨x,hx,rfl⟩:=hv
     obtain ⟨y,hy,rfl⟩:=hb
     rw [hx] at hy
     cases hy
     have:=hcn.ev x
     replace this:=evC_le (o:=⟨dst,.call ⟨.value fx,al.toArray,argTypes⟩,ty,pos,af,gd⟩) hs (by simp [Op.operands,Call.operands];exact .inr (List.mem_of_getElem? hx)) this
     exact this
    have hrun:(execOp a.eval ⟨dst,.call ⟨.value fx,al.toArray,argTypes⟩,ty,pos,af,gd⟩).run P w= .ok (.enter f' vs.toArray) w:=by
     have:=hF.run vs.toArray w
     simp [execOp,resolve,hf1,Deferred.ofValue,invoke,hvs] at this⊢
     exact this
    unfold Oper.wp
    rw [hrun]
    refine Calls.mono (hc X.W0 w μ σ.sz vs hA hcn.w0 hv) ?_
    rintro e w' ⟨g,ca,ty',rfl,hg,hkp,hb,hall⟩
    have hnew:=hcn.new (id:=d) hid (w':=w') (g:=g) (vs:=ca) (e:=ty') hkp hg hb hne hall (fun c hcm=>nlB_ok (List.all_eq_true.1 hnl c hcm))
    refine hK _ _ ⟨upd μ d g,?_⟩
    refine cn_put hnew (d:=dst) hd (v:= .pointer (some ⟨g,0,none⟩)) (av:= .one (.ptr d 0)) ⟨by rw [upd_self],?_⟩
    show upd σ.sz d _ d≠0
    rw [upd_self]
    intro h0
    exact hne (List.eq_nil_of_length_eq_zero h0)
   ·cases hcl
end
end Go.Proofs.YteiibidmicgjoaaGreatDoor
