/-
  Several texts in one: El, Em, En, Es.
-/
import Derived.Test.YtkmalkcgkcpcmaaGreatDoorEx
import Derived.OwnWalk
namespace Go.Proofs.YtkmalkcgkcpcmaaGreatDoor
open Go.RowKit
set_option linter.unusedVariables false
set_option linter.unusedSimpArgs false
theorem fin_oneM {P:Program} {r:ResultVar} {R a:AV} {σ:St} {k:Nat} {b c:List C} (h:ResIs P σ r a) (hE:Ent a R) (hz:σ.sz k=c.length) (hm:EntL (rdL (σ.m k) 0 c.length) c) (hn:c.all nlB=true):Fin P [r] [(k,b,c)] R σ:=
 ⟨⟨[a],.cons h .nil,.inl rfl,hE⟩,fun p hp=>by
  obtain rfl:=List.mem_singleton.1 hp
  refine ⟨hz,fun i d hi=>?_⟩
  have hlt:=(List.getElem?_eq_some_iff.1 hi).1
  have h2:=rdL_get (σ.m k) c.length 0 i hlt
  rw [Nat.zero_add] at h2
  exact ⟨hm.get i _ d h2 hi,nlB_ok (List.all_eq_true.1 hn d (List.mem_of_getElem? hi))⟩⟩
theorem binLe {k:IntKind} {a b:Int} {c:Bool} (h:decide (a≤b)=c):binR .leq k a b=some (.bool c):=by rw [←h];rfl
theorem binLt {k:IntKind} {a b:Int} {c:Bool} (h:decide (a<b)=c):binR .lss k a b=some (.bool c):=by rw [←h];rfl
theorem binGt {k:IntKind} {a b:Int} {c:Bool} (h:decide (a>b)=c):binR .gtr k a b=some (.bool c):=by rw [←h];rfl
theorem binGe {k:IntKind} {a b:Int} {c:Bool} (h:decide (a≥b)=c):binR .geq k a b=some (.bool c):=by rw [←h];rfl
theorem binEq {k:IntKind} {a b:Int} {c:Bool} (h:decide (a=b)=c):binR .eql k a b=some (.bool c):=by
 rw [←h]
 show some (Value.bool (a==b))=_
 congr 2
theorem binRem {k:IntKind} {a b:Int} (h:b≠0):binR .rem k a b=some (.int k (a.tmod b)):=if_neg h
theorem binAdd {k:IntKind} {a b c:Int} (h:k.wrap (a+b)=c):binR .add k a b=some (.int k c):=by rw [←h];rfl
theorem binSub {k:IntKind} {a b c:Int} (h:k.wrap (a-b)=c):binR .sub k a b=some (.int k c):=by rw [←h];rfl
def renC (θ:Nat→Nat):C→C
 | .ptr k o=> .ptr (θ k) o
 | .fn f caps=> .fn f (caps.map fun p=>(θ p.1,p.2))
 | .gl k l e=> .gl (θ k) l e
 | .sx k o l c e=> .sx (θ k) o l c e
 | c=>c
def renA (θ:Nat→Nat):AV→AV
 | .one c=> .one (renC θ c)
 | .agg cs=> .agg (cs.map (renC θ))
 | a=>a
theorem cc_ren {W0:World} {μ:Nat→Nat×Nat} {sz:Nat→Nat} {w:World} {x:Value} {θ:Nat→Nat} {c:C} (h:cc W0 μ sz w x (renC θ c)):cc W0 (fun i=>μ (θ i)) (fun i=>sz (θ i)) w x c:=by
 cases c with
 | fn f caps=>
   refine ⟨?_,fun p hp=>h.2 (θ p.1,p.2) (List.mem_map.2 ⟨p,hp,rfl⟩)⟩
   rw [h.1,List.map_map]
   rfl
 | q r j i=>
   match i with
   | 0=>exact h
   | 1=>exact h
   | _+2=>exact h
 | _=>exact h
theorem cv_ren {W0:World} {μ:Nat→Nat×Nat} {sz:Nat→Nat} {w:World} {x:Value} {θ:Nat→Nat} {a:AV} (hn:notTup a=true) (h:cv W0 μ sz w x (renA θ a)):cv W0 (fun i=>μ (θ i)) (fun i=>sz (θ i)) w x a:=by
 cases a with
 | one c=>exact cc_ren h
 | agg cs=>
   obtain ⟨l,rfl,hl⟩:=h
   refine ⟨l,rfl,by rw [hl.1];simp,fun i a c ha hc=>cc_ren (hl.2 i a _ ha (by rw [List.getElem?_map,hc];rfl))⟩
 | tup l=>cases hn
 | junk=>trivial
theorem blk_free {W0:World} {μ μ':Nat→Nat×Nat} {sz sz':Nat→Nat} {w:World} {k k':Nat} {cs:List C} (h:BlkAt W0 μ sz w k cs) (hk:μ' k'=μ k) (hp:cs.all pfC=true):BlkAt W0 μ' sz' w k' cs:=by
 obtain ⟨a,e,h1,h2,h3,h4,h5,h6⟩:=h
 exact ⟨a,e,by rw [hk];exact h1,by rw [hk];exact h2,h3,h4,fun o x c hx hc=>(h5 o x c hx hc).free (List.all_eq_true.1 hp c (List.mem_of_getElem? hc)),h6⟩
theorem CtrM.ren {P:Program} {A:World→Prop} {f:FuncId} {args:List AV} {bs:List (Nat×List C×List C)} {R:AV} (h:CtrM P A f args bs R) (θ:Nat→Nat) (hθ: ∀p∈bs,∀q∈bs,θ p.1=θ q.1→p.1=q.1) (hp:(pf R&&bs.all fun p=>p.2.1.all pfC&&p.2.2.all pfC)=true) (ht:args.all notTup=true):
  CtrM P A f (args.map (renA θ)) (bs.map fun p=>(θ p.1,p.2)) R:=by
 intro W0 w μ sz vs hA hk hb hi hv
 simp only [Bool.and_eq_true,List.all_eq_true] at hp
 obtain ⟨hR,hpb⟩:=hp
 have hpa: ∀p∈bs,p.2.1.all pfC=true∧p.2.2.all pfC=true:=fun p hpm=>⟨List.all_eq_true.2 (hpb p hpm).1,List.all_eq_true.2 (hpb p hpm).2⟩
 refine (h W0 w (fun i=>μ (θ i)) (fun i=>sz (θ i)) vs hA hk (fun p hpm=>?_) (fun p hpm q hqm hpq=>?_) ?_).mono ?_
 ·obtain ⟨h1,h2,h3,h4⟩:=hb (θ p.1,p.2) (List.mem_map.2 ⟨p,hpm,rfl⟩)
  exact ⟨h1,h2,h3,blk_free h4 rfl (hpa p hpm).1⟩
 ·exact hθ p hpm q hqm (hi (θ p.1,p.2) (List.mem_map.2 ⟨p,hpm,rfl⟩) (θ q.1,q.2) (List.mem_map.2 ⟨q,hqm,rfl⟩) hpq)
 ·refine ⟨by rw [hv.1];simp,fun i v a hvi ha=>cv_ren (List.all_eq_true.1 ht a (List.mem_of_getElem? ha)) (hv.2 i v _ hvi (by rw [List.getElem?_map,ha];rfl))⟩
 ·rintro e w' ⟨r,W',rfl,h1,hgr,h2,h3⟩
  refine ⟨r,W',rfl,⟨h1.os,h1.tape,h1.output,h1.size,fun g hg hD=>h1.block g hg ?_⟩,hgr,h2.free hR,fun p hpm=>?_⟩
  ·rintro ⟨p,hpm,rfl⟩
   exact hD ⟨(θ p.1,p.2),List.mem_map.2 ⟨p,hpm,rfl⟩,rfl⟩
  ·obtain ⟨q,hq,rfl⟩:=List.mem_map.1 hpm
   exact blk_free (h3 q hq) rfl (hpa q hq).2
theorem CtrM.at1 {P:Program} {A:World→Prop} {f:FuncId} {k0:Nat} {args:List AV} {b c:List C} {R:AV} (h:CtrM P A f args [(k0,b,c)] R) (k:Nat) (hp:(pf R&& [(k0,b,c)].all fun p=>p.2.1.all pfC&&p.2.2.all pfC)=true) (ht:args.all notTup=true):
  CtrM P A f (args.map (renA fun _=>k)) [(k,b,c)] R:=
 h.ren (fun _=>k) (fun p hp q hq _=>by rw [List.mem_singleton.1 hp,List.mem_singleton.1 hq]) hp ht
def renT (θ:Nat→Nat):AV→AV
 | .tup l=> .tup (l.map (renA θ))
 | a=>renA θ a
theorem cc_back {W0:World} {μ:Nat→Nat×Nat} {sz:Nat→Nat} {w:World} {x:Value} {θ:Nat→Nat} {c:C} (h:cc W0 (fun i=>μ (θ i)) (fun i=>sz (θ i)) w x c):cc W0 μ sz w x (renC θ c):=by
 cases c with
 | fn f caps=>
   refine ⟨?_,fun p hp=>?_⟩
   ·rw [h.1,List.map_map]
    rfl
   ·obtain ⟨q,hq,rfl⟩:=List.mem_map.1 hp
    exact h.2 q hq
 | q r j i=>
   match i with
   | 0=>exact h
   | 1=>exact h
   | _+2=>exact h
 | _=>exact h
theorem cv0_back {W0:World} {μ:Nat→Nat×Nat} {sz:Nat→Nat} {w:World} {x:Value} {θ:Nat→Nat} {a:AV} (h:cv0 W0 (fun i=>μ (θ i)) (fun i=>sz (θ i)) w x a):cv0 W0 μ sz w x (renA θ a):=by
 cases a with
 | one c=>exact cc_back (c:=c) h
 | agg cs=>
   obtain ⟨l,rfl,hl⟩:=h
   refine ⟨l,rfl,by rw [hl.1];simp,fun i a c ha hc=>?_⟩
   rw [List.getElem?_map] at hc
   cases hd:cs[i]? with
   | none=>rw [hd] at hc;cases hc
   | some d=>rw [hd] at hc;cases hc;exact cc_back (hl.2 i a d ha hd)
 | tup l=>exact h
 | junk=>trivial
theorem cv_back {W0:World} {μ:Nat→Nat×Nat} {sz:Nat→Nat} {w:World} {x:Value} {θ:Nat→Nat} {a:AV} (h:cv W0 (fun i=>μ (θ i)) (fun i=>sz (θ i)) w x a):cv W0 μ sz w x (renT θ a):=by
 cases a with
 | one c=>exact cc_back (c:=c) h
 | agg cs=>exact cv0_back (a:= .agg cs) h
 | tup l=>
   obtain ⟨vs,rfl,hl⟩:=h
   refine ⟨vs,rfl,by rw [hl.1];simp,fun i a c ha hc=>?_⟩
   rw [List.getElem?_map] at hc
   cases hd:l[i]? with
   | none=>rw [hd] at hc;cases hc
   | some d=>rw [hd] at hc;cases hc;exact cv0_back (hl.2 i a d ha hd)
 | junk=>trivial
theorem nl_ren {θ:Nat→Nat} {c:C} :nl (renC θ c)↔nl c:=by cases c<;>exact Iff.rfl
theorem blk_ren {W0:World} {μ:Nat→Nat×Nat} {sz:Nat→Nat} {w:World} {θ:Nat→Nat} {k:Nat} {cs:List C} :BlkAt W0 μ sz w (θ k) (cs.map (renC θ))↔BlkAt W0 (fun i=>μ (θ i)) (fun i=>sz (θ i)) w k cs:=by
 constructor
 ·rintro ⟨a,e,h1,h2,h3,h4,h5,h6⟩
  refine ⟨a,e,h1,h2,by simpa using h3,h4,fun o x c hx hc=>cc_ren (h5 o x _ hx (by rw [List.getElem?_map,hc];rfl)),fun c hc=>nl_ren.1 (h6 _ (List.mem_map.2 ⟨c,hc,rfl⟩))⟩
 ·rintro ⟨a,e,h1,h2,h3,h4,h5,h6⟩
  refine ⟨a,e,h1,h2,by simpa using h3,h4,fun o x c hx hc=>?_,fun c hc=>?_⟩
  ·rw [List.getElem?_map] at hc
   cases hd:cs[o]? with
   | none=>rw [hd] at hc;cases hc
   | some d=>rw [hd] at hc;cases hc;exact cc_back (h5 o x d hx hd)
  ·obtain ⟨d,hd,rfl⟩:=List.mem_map.1 hc
   exact nl_ren.2 (h6 d hd)
theorem alZ_ren {θ:Nat→Nat} (hθ: ∀k,θ (θ k)=k): ∀(ns:List (Nat×List C)) (z:Nat→Nat),alZ (fun i=>z (θ i)) ns=fun i=>alZ z (ns.map fun q=>(θ q.1,q.2.map (renC θ))) (θ i)
 | [],z=>rfl
 | q::ns,z=>by
   show alZ (upd (fun i=>z (θ i)) q.1 q.2.length) ns=fun i=>alZ (upd z (θ q.1) (q.2.map (renC θ)).length) (ns.map _) (θ i)
   rw [←alZ_ren hθ ns]
   congr 1
   funext i
   by_cases h:i=q.1
   ·subst h;rw [upd_self,upd_self];simp
   ·rw [upd_ne h,upd_ne fun h2=>h (by rw [←hθ i,h2,hθ])]
theorem CtrG.ren {P:Program} {A:World→Prop} {f:FuncId} {args:List AV} {bs:List (Nat×List C×List C)} {ns:List (Nat×List C)} {R:AV} (h:CtrG P A f args bs ns R) (θ:Nat→Nat) (hθ: ∀k,θ (θ k)=k) (ht:args.all notTup=true):
  CtrG P A f (args.map (renA θ)) (bs.map fun p=>(θ p.1,p.2.1.map (renC θ),p.2.2.map (renC θ))) (ns.map fun q=>(θ q.1,q.2.map (renC θ))) (renT θ R):=by
 intro W0 w μ sz vs hA hk hb hi hz hv
 have inj: ∀ {a b:Nat},θ a=θ b→a=b:=fun {a b} hab=>by rw [←hθ a,hab,hθ]
 refine (h W0 w (fun i=>μ (θ i)) (fun i=>sz (θ i)) vs hA hk (fun p hp=>?_) (fun p hp q hq hpq=>?_) (fun q hq=>hz (θ q.1,q.2.map (renC θ)) (List.mem_map.2 ⟨q,hq,rfl⟩)) ?_).mono ?_
 ·obtain ⟨h1,h2,h3,h4⟩:=hb _ (List.mem_map.2 ⟨p,hp,rfl⟩)
  exact ⟨by simpa using h1,fun h0=>h2 (by simp [h0]),h3,blk_ren.1 h4⟩
 ·exact inj (hi _ (List.mem_map.2 ⟨p,hp,rfl⟩) _ (List.mem_map.2 ⟨q,hq,rfl⟩) hpq)
 ·exact ⟨by rw [hv.1];simp,fun i v a hvi ha=>cv_ren (List.all_eq_true.1 ht a (List.mem_of_getElem? ha)) (hv.2 i v _ hvi (by rw [List.getElem?_map,ha];rfl))⟩
 ·rintro e w' ⟨r,μ',W',rfl,h1,hgr,hμ,h2,h3,h4,h5⟩
  have hz':=alZ_ren hθ ns sz
  rw [hz'] at h2 h3 h4
  have em:μ'=fun i=>(fun j=>μ' (θ j)) (θ i):=funext fun i=>by show μ' i=μ' (θ (θ i));rw [hθ]
  refine ⟨r,fun j=>μ' (θ j),W',rfl,⟨h1.os,h1.tape,h1.output,h1.size,fun g hg hD=>h1.block g hg ?_⟩,hgr,fun k hk=>?_,?_,fun p hp=>?_,fun q hq=>?_,fun p hp q hq he=>?_⟩
  ·rintro ⟨p,hp,rfl⟩
   exact hD ⟨_,List.mem_map.2 ⟨p,hp,rfl⟩,rfl⟩
  ·show μ' (θ k)=μ k
   rw [hμ (θ k) fun q hq hqk=>hk _ (List.mem_map.2 ⟨q,hq,rfl⟩) (by rw [hqk,hθ]),hθ]
  ·rw [em] at h2
   exact cv_back h2
  ·obtain ⟨q,hq,rfl⟩:=List.mem_map.1 hp
   have:=h3 q hq
   rw [em] at this
   exact blk_ren.2 this
  ·obtain ⟨p,hp,rfl⟩:=List.mem_map.1 hq
   obtain ⟨a1,a2,a3⟩:=h4 p hp
   rw [em] at a3
   refine ⟨?_,?_,blk_ren.2 a3⟩
   ·show _≤(μ' (θ (θ p.1))).1
    rw [hθ];exact a1
   ·show ¬alive W' (μ' (θ (θ p.1))).1
    rw [hθ];exact a2
  ·obtain ⟨p',hp',rfl⟩:=List.mem_map.1 hp
   obtain ⟨q',hq',rfl⟩:=List.mem_map.1 hq
   replace he:(μ' (θ (θ p'.1))).1=(μ' (θ (θ q'.1))).1:=he
   rw [hθ,hθ] at he
   exact congrArg θ (h5 p' hp' q' hq' he)
def swp (a b k:Nat):Nat:=if k=a then b else if k=b then a else k
theorem swp_swp (a b k:Nat):swp a b (swp a b k)=k:=by
 unfold swp
 by_cases h1:k=a
 ·subst h1
  rw [if_pos rfl]
  by_cases h2:b=k
  ·rw [if_pos h2,h2]
  ·rw [if_neg h2,if_pos rfl]
 ·rw [if_neg h1]
  by_cases h2:k=b
  ·rw [if_pos h2,if_pos rfl,h2]
  ·rw [if_neg h2,if_neg h1,if_neg h2]
def ptrsOf:List AV→Option (List (Nat×Nat))
 | []=>some []
 | .one (.ptr k o)::r=>match ptrsOf r with | some l=>some ((k,o)::l) | none=>none
 | _=>none
theorem ptrsOf_ok: ∀ {l:List AV} {caps:List (Nat×Nat)},ptrsOf l=some caps→l=caps.map fun p=> .one (.ptr p.1 p.2)
 | [],caps,h=>by cases h;rfl
 | .one (.ptr k o)::r,caps,h=>by
   unfold ptrsOf at h
   cases hl:ptrsOf r with
   | none=>rw [hl] at h;cases h
   | some l=>
     rw [hl] at h
     cases h
     rw [ptrsOf_ok hl]
     rfl
 | .one (.v _)::_,_,h=>by cases h
 | .one (.q _ _ _)::_,_,h=>by cases h
 | .one (.fn _ _)::_,_,h=>by cases h
 | .one (.ints _)::_,_,h=>by cases h
 | .one (.iptr _)::_,_,h=>by cases h
 | .one (.gl _ _ _)::_,_,h=>by cases h
 | .one (.ls _ _ _)::_,_,h=>by cases h
 | .one (.fp _)::_,_,h=>by cases h
 | .one (.sx _ _ _ _ _)::_,_,h=>by cases h
 | .agg _::_,_,h=>by cases h
 | .tup _::_,_,h=>by cases h
 | .junk::_,_,h=>by cases h
theorem u_makeFunc' {P:Program} {X:Ctx} {ops l:List Oper} {σ:St} {K:List Eff→St→Prop} {dst:Option Tmp} {ty:TypeId} {pos:String} {af:Array Edge} {gd:Option (Nat×Bool)} {f:FuncId} {capt:Array Operand} {caps:List (Nat×Nat)} (hg:gOk ops σ.s gd) (hd:dB X.n dst=true) (hx:ptrsOf (capt.toList.map (evC σ.s))=some caps)
  (hl:RunK P X ops l (σ.app dst ⟨.one (.fn f caps),[],[],[]⟩) (fun es σ'=>K (⟨.one (.fn f caps),[],[],[]⟩::es) σ')):RunK P X ops (⟨dst,.makeFunc (.func f) #[] capt,ty,pos,af,gd⟩::l) σ K:=u_makeFunc hg hd (ptrsOf_ok hx) hl
section
variable {P:Program} {X:Ctx} {ops l:List Oper} {σ:St} {K:List Eff→St→Prop} {ty:TypeId} {pos:String} {af:Array Edge} {gd:Option (Nat×Bool)}
end
theorem pure_min {P:Program} {dst:Option Tmp} {ty:TypeId} {pos:String} {af:Array Edge} {gd:Option (Nat×Bool)} {s:Nat→AV} {x y:Operand} {ts:Array TypeId} {k k':IntKind} {a b:Int} (hx:evC s x= .one (.v (.int k a))) (hy:evC s y= .one (.v (.int k' b))):Pure P ⟨dst,.call ⟨.builtin .min,#[x,y],ts⟩,ty,pos,af,gd⟩ s (.one (.v (.int k (if b<a then b else a)))):=fun W0 μ sz w ρ hρ=>by
 have h1:=hρ x (by simp [Op.operands,Call.operands])
 rw [hx] at h1
 replace h1:ρ x= .int k a:=h1
 have h2:=hρ y (by simp [Op.operands,Call.operands])
 rw [hy] at h2
 replace h2:ρ y= .int k' b:=h2
 exact ⟨_,by simp [execOp,resolve,invoke,builtin,Builtin.min_,Builtin.min2,h1,h2],rfl⟩
theorem pure_max {P:Program} {dst:Option Tmp} {ty:TypeId} {pos:String} {af:Array Edge} {gd:Option (Nat×Bool)} {s:Nat→AV} {x y:Operand} {ts:Array TypeId} {k k':IntKind} {a b:Int} (hx:evC s x= .one (.v (.int k a))) (hy:evC s y= .one (.v (.int k' b))):Pure P ⟨dst,.call ⟨.builtin .max,#[x,y],ts⟩,ty,pos,af,gd⟩ s (.one (.v (.int k (if a<b then b else a)))):=fun W0 μ sz w ρ hρ=>by
 have h1:=hρ x (by simp [Op.operands,Call.operands])
 rw [hx] at h1
 replace h1:ρ x= .int k a:=h1
 have h2:=hρ y (by simp [Op.operands,Call.operands])
 rw [hy] at h2
 replace h2:ρ y= .int k' b:=h2
 exact ⟨_,by simp [execOp,resolve,invoke,builtin,Builtin.max_,Builtin.max2,h1,h2],rfl⟩
end Go.Proofs.YtkmalkcgkcpcmaaGreatDoor
namespace Go.Proofs.YtkmalkcgkcpcmaaGreatDoor
open Go.RowKit
set_option linter.unusedVariables false
set_option linter.unusedSimpArgs false
section
variable {P:Program} {ops:Array Oper} {Q:Exit→Act→World→Prop} {rest:List Oper} {o:Oper} {a:Act} {w w':World} {v:Value}
end
section
variable {P:Program} {X:Ctx} {ops l:List Oper} {σ:St} {K:List Eff→St→Prop} {dst:Option Tmp} {ty:TypeId} {pos:String} {af:Array Edge} {gd:Option (Nat×Bool)}
theorem u_max {x y:Operand} {ts:Array TypeId} {k k':IntKind} {a b m:Int} (hg:gOk ops σ.s gd) (hd:dB X.n dst=true) (hx:evC σ.s x= .one (.v (.int k a))) (hy:evC σ.s y= .one (.v (.int k' b))) (hc:(if a<b then b else a)=m)
  (hl:RunK P X ops l (σ.app dst ⟨.one (.v (.int k m)),[],[],[]⟩) (fun es σ'=>K (⟨.one (.v (.int k m)),[],[],[]⟩::es) σ')):RunK P X ops (⟨dst,.call ⟨.builtin .max,#[x,y],ts⟩,ty,pos,af,gd⟩::l) σ K:=by
 subst hc
 exact u_pure (o:=⟨dst,.call ⟨.builtin .max,#[x,y],ts⟩,ty,pos,af,gd⟩) hg hd (pure_max hx hy) hl
theorem u_min {x y:Operand} {ts:Array TypeId} {k k':IntKind} {a b m:Int} (hg:gOk ops σ.s gd) (hd:dB X.n dst=true) (hx:evC σ.s x= .one (.v (.int k a))) (hy:evC σ.s y= .one (.v (.int k' b))) (hc:(if b<a then b else a)=m)
  (hl:RunK P X ops l (σ.app dst ⟨.one (.v (.int k m)),[],[],[]⟩) (fun es σ'=>K (⟨.one (.v (.int k m)),[],[],[]⟩::es) σ')):RunK P X ops (⟨dst,.call ⟨.builtin .min,#[x,y],ts⟩,ty,pos,af,gd⟩::l) σ K:=by
 subst hc
 exact u_pure (o:=⟨dst,.call ⟨.builtin .min,#[x,y],ts⟩,ty,pos,af,gd⟩) hg hd (pure_min hx hy) hl
end
end Go.Proofs.YtkmalkcgkcpcmaaGreatDoor
namespace Go.Proofs.YtkmalkcgkcpcmaaGreatDoor
open Go.RowKit
set_option linter.unusedVariables false
set_option linter.unusedSimpArgs false
def CtrN (P:Program) (A:World→Prop) (f:FuncId) (args:List AV) (cs:List C):Prop:= ∀k,CtrG P A f args [] [(k,cs)] (.one (.ptr k 0))
theorem swp_id {k0 k:Nat} {c:C} (h:pfC c=true):renC (swp k0 k) c=c:=by
 cases c with
 | ptr i o=>cases h
 | gl i l e=>cases h
 | sx i o l c e=>cases h
 | fn f caps=>
   cases caps with
   | nil=>rfl
   | cons _ _=>cases h
 | _=>rfl
theorem map_self {α:Type} {l:List α} {f:α→α} (h: ∀c∈l,f c=c):l.map f=l:=by
 induction l with
 | nil=>rfl
 | cons a l ih=>rw [List.map_cons,h a List.mem_cons_self,ih fun c hc=>h c (List.mem_cons_of_mem _ hc)]
theorem swp_ids {k0 k:Nat} {cs:List C} (h:cs.all pfC=true):cs.map (renC (swp k0 k))=cs:=map_self fun c hc=>swp_id (List.all_eq_true.1 h c hc)
theorem swp_args {k0 k:Nat} {as:List AV} (h:as.all pf0=true):as.map (renA (swp k0 k))=as:=map_self fun a ha=>by
 have:=List.all_eq_true.1 h a ha
 cases a with
 | one c=>exact congrArg AV.one (swp_id this)
 | agg cs=>exact congrArg AV.agg (swp_ids this)
 | _=>rfl
theorem pf0_notTup {as:List AV} (h:as.all pf0=true):as.all notTup=true:=List.all_eq_true.2 fun a ha=>by
 have:=List.all_eq_true.1 h a ha
 cases a with
 | tup l=>cases this
 | _=>rfl
theorem CtrG.at1 {P:Program} {A:World→Prop} {f:FuncId} {k0:Nat} {args:List AV} {cs:List C} {R:AV} (h:CtrG P A f args [] [(k0,cs)] R) (ha:args.all pf0=true) (hc:cs.all pfC=true) (k:Nat):CtrG P A f args [] [(k,cs)] (renT (swp k0 k) R):=by
 have:=h.ren (swp k0 k) (swp_swp k0 k) (pf0_notTup ha)
 rw [swp_args ha] at this
 simpa [swp_ids hc,swp] using this
theorem ctrN_body {P:Program} {A:World→Prop} {f:FuncId} {fn:Func} {c:Code} {args:List AV} {cs:List C} {n:Nat} {rs:List ResultVar} (k:Nat) (hf:P.funcs[f]?=some fn) (hb:fn.body=some c) (hn:fn.ntmps=n) (hrs:fn.results=rs.toArray) (hle:Nat.ble args.length n=true)
  (hpf:(cs.all pfC&&args.all pf0&&!cs.isEmpty)=true)
  (h: ∀(W0 base:World) (D:Nat→Prop) (μ0:Nat→Nat×Nat),A W0→(∀g,D g→ ∃k∈([]:List Nat),g=(μ0 k).1)→Aw P ⟨W0,base,D,n,[],μ0⟩ c (stL (argS 0 args) []) (fun e σ=>(e= .normal∨e= .ret)∧Fin P rs [] (.one (.ptr k 0)) σ∧FinN [(k,cs)] σ)):CtrN P A f args cs:=by
 simp only [Bool.and_eq_true,Bool.not_eq_true'] at hpf
 obtain ⟨⟨h1,h2⟩,h3⟩:=hpf
 intro k'
 have:=(ctrG_body (bs:= []) (ns:= [(k,cs)]) (R:= .one (.ptr k 0)) hf hb hn hrs hle (by
  simp only [Bool.and_eq_true,List.all_eq_true]
  refine ⟨⟨by simp [inA,inC],fun p hp=>(by cases hp)⟩,fun q hq=>?_⟩
  obtain rfl:=List.mem_singleton.1 hq
  exact ⟨fun c hc=>pfC_in (List.all_eq_true.1 h1 c hc) _,by rw [h3];rfl⟩) (List.all_eq_true.2 fun a ha=>by
   have:=List.all_eq_true.1 h2 a ha
   cases a with
   | one c=>exact pfC_in this _
   | agg cs=>exact pfCs_in this _
   | junk=>rfl
   | tup l=>cases this) (by simp) (fun p hp=>by cases hp) h).at1 h2 h1 k'
 simpa [renT,renA,renC,swp] using this
theorem CtrG.weak {P:Program} {A:World→Prop} {f:FuncId} {args args':List AV} {bs:List (Nat×List C×List C)} {ns:List (Nat×List C)} {R R':AV} (h:CtrG P A f args bs ns R) (ha:Ents args' args) (hr:Ent R R'):CtrG P A f args' bs ns R':=
 fun W0 w μ sz vs hA hk hb hi hz hv=>(h W0 w μ sz vs hA hk hb hi hz (ha.all2 hv)).mono fun e w' ⟨r,μ',W',h1,h2,h5,h6,h3,h4⟩=>⟨r,μ',W',h1,h2,h5,h6,hr _ _ _ _ _ h3,h4⟩
section
variable {P:Program} {X:Ctx} {ops l:List Oper} {σ:St} {K:List Eff→St→Prop}
variable {dst:Option Tmp} {ty:TypeId} {pos:String} {af:Array Edge} {gd:Option (Nat×Bool)} {s:Nat→AV} {z:Nat→Nat}
theorem u_callG {A:World→Prop} [MonoA A] (hA:A X.W0) {c:Call} {f:FuncId} [hF:Fun P f] {as:List AV} {R:AV} {ns:List (Nat×List C)} (hg:gOk ops σ.s gd) (hd:dB X.n dst=true) (hf:(ns.all fun q=>Nat.beq (σ.sz q.1) 0&&!q.2.isEmpty)=true) (hnd:(ns.map (·.1)).Nodup) (hcl:calleeOf σ.s c.callee=some (f,[])) (has:Ents (c.args.toList.map (evC σ.s)) as) (hc:CtrG P A f as [] ns R)
  (hl:RunK P X ops l (σ.app dst ⟨R,[],[],ns⟩) (fun es σ'=>K (⟨R,[],[],ns⟩::es) σ')):RunK P X ops (⟨dst,.call c,ty,pos,af,gd⟩::l) σ K:=by
 have hS:=sim_callG (X:=X) (dst:=dst) (ty:=ty) (pos:=pos) (af:=af) (gd:=gd) (s:=σ.s) (z:=σ.sz) hA (c:=c) (caps:= []) (ro:= []) (rw:= []) (ns:=ns) (ord:= []) (R:=R) (dB_ok hd) hcl rfl (by rw [List.append_nil];exact hc.weak has Ent.same) rfl rfl .nil rfl (fun p hp=>by cases hp) (fun p hp=>by cases hp) (fun q hq=>by cases hq)
 refine .of (fun _ _ hl=>Run.step hg hS (fun p hp=>by cases hp) ⟨fun p hp=>?_,hnd⟩ hl) hl
 have:=List.all_eq_true.1 hf p hp
 simp only [Bool.and_eq_true,Bool.not_eq_true'] at this
 exact ⟨by simpa using this.1,fun h=>by rw [h] at this;cases this.2⟩
theorem u_callN {A:World→Prop} [MonoA A] (hA:A X.W0) {c:Call} {f:FuncId} [hF:Fun P f] {as:List AV} {cs:List C} {d:Nat} (hg:gOk ops σ.s gd) (hd:dB X.n (some d)=true) (hf:(Nat.beq (σ.sz d) 0&&!cs.isEmpty)=true) (hcl:calleeOf σ.s c.callee=some (f,[])) (has:Ents (c.args.toList.map (evC σ.s)) as) (hc:CtrN P A f as cs)
  (hl:RunK P X ops l (σ.app (some d) ⟨.one (.ptr d 0),[],[],[(d,cs)]⟩) (fun es σ'=>K (⟨.one (.ptr d 0),[],[],[(d,cs)]⟩::es) σ')):RunK P X ops (⟨some d,.call c,ty,pos,af,gd⟩::l) σ K:=
 u_callG hA hg hd (by rw [List.all_cons,hf];rfl) (by simp) hcl has (hc d) hl
end
end Go.Proofs.YtkmalkcgkcpcmaaGreatDoor
namespace Go.Proofs.YtkmalkcgkcpcmaaGreatDoor
open Go.RowKit
set_option linter.unusedVariables false
section
variable {P:Program} {X:Ctx} {ops l:List Oper} {σ:St} {K:List Eff→St→Prop} {dst:Option Tmp} {ty:TypeId} {pos:String} {af:Array Edge} {gd:Option (Nat×Bool)}
theorem v_skip {op:Op} {g:Nat} {want:Bool} (hg:gslot ops σ.s g= .one (.v (.bool (!want))):=by first | exact trivial | exact rfl) (hl:RunK P X ops l (σ.app dst noEff) (fun es σ'=>K (noEff::es) σ')):
  RunK P X ops (⟨dst,op,ty,pos,af,some (g,want)⟩::l) σ K:=u_skip hg hl
theorem v_move {x:Operand} {av:AV} (hg:gOk ops σ.s gd:=by first | exact trivial | exact rfl) (hd:dB X.n dst=true:=by exact rfl) (hx:evC σ.s x=av:=by exact rfl) (hl:RunK P X ops l (σ.app dst ⟨av,[],[],[]⟩) (fun es σ'=>K (⟨av,[],[],[]⟩::es) σ')):
  RunK P X ops (⟨dst,.move x,ty,pos,af,gd⟩::l) σ K:=u_move hg hd hx hl
theorem v_assign {x:Operand} {av:AV} (hg:gOk ops σ.s gd:=by first | exact trivial | exact rfl) (hd:dB X.n dst=true:=by exact rfl) (hx:evC σ.s x=av:=by exact rfl) (hl:RunK P X ops l (σ.app dst ⟨av,[],[],[]⟩) (fun es σ'=>K (⟨av,[],[],[]⟩::es) σ')):
  RunK P X ops (⟨dst,.assign x,ty,pos,af,gd⟩::l) σ K:=u_assign hg hd hx hl
theorem v_load {t:TypeId} {x:Operand} {agg:Bool} {n:Nat} [hT:Tsz P t agg n] {k off:Nat} (hg:gOk ops σ.s gd:=by first | exact trivial | exact rfl) (hd:dB X.n dst=true:=by exact rfl) (hx:evC σ.s x= .one (.ptr k off):=by exact rfl) (hz:(Nat.ble (off+n) (σ.sz k)&&Nat.blt 0 n&&(agg || Nat.beq n 1))=true:=by exact rfl) (hl:RunK P X ops l (σ.app dst ⟨mkA agg (rdL (σ.m k) off n),[(k,off,rdL (σ.m k) off n)],[],[]⟩) (fun es σ'=>K (⟨mkA agg (rdL (σ.m k) off n),[(k,off,rdL (σ.m k) off n)],[],[]⟩::es) σ')):
  RunK P X ops (⟨dst,.load t x,ty,pos,af,gd⟩::l) σ K:=u_load hg hd hx hz hl
theorem v_fieldAddr {t:TypeId} {x:Operand} {i fo:Nat} {agg:Bool} {n:Nat} [hF:Fld P t i fo agg n] {k off:Nat} (hg:gOk ops σ.s gd:=by first | exact trivial | exact rfl) (hd:dB X.n dst=true:=by exact rfl) (hx:evC σ.s x= .one (.ptr k off):=by exact rfl) (hl:RunK P X ops l (σ.app dst ⟨.one (.ptr k (off+fo)),[],[],[]⟩) (fun es σ'=>K (⟨.one (.ptr k (off+fo)),[],[],[]⟩::es) σ')):
  RunK P X ops (⟨dst,.fieldAddr t x i,ty,pos,af,gd⟩::l) σ K:=u_fieldAddr hg hd hx hl
theorem v_box {d:Nat} {t:TypeId} {x:Operand} {av:AV} (hg:gOk ops σ.s gd:=by first | exact trivial | exact rfl) (hd:dB X.n (some d)=true:=by exact rfl) (hx:evC σ.s x=av:=by exact rfl) (hc:((isAggB av || Nat.beq (acells av).length 1)&&(acells av).all nlB&&Nat.beq (σ.sz d) 0&&!(acells av).isEmpty)=true:=by exact rfl) (hl:RunK P X ops l (σ.app (some d) ⟨.one (.ptr d 0),[],[],[(d,acells av)]⟩) (fun es σ'=>K (⟨.one (.ptr d 0),[],[],[(d,acells av)]⟩::es) σ')):
  RunK P X ops (⟨some d,.box t x,ty,pos,af,gd⟩::l) σ K:=u_box hg hd hx hc hl
theorem v_alloc {d:Nat} {t:TypeId} {zv:Value} [hZ:Zer P t zv] (hg:gOk ops σ.s gd:=by first | exact trivial | exact rfl) (hd:dB X.n (some d)=true:=by exact rfl) (hf:(Nat.beq (σ.sz d) 0&&!zv.cells.toList.isEmpty)=true:=by exact rfl) (hl:RunK P X ops l (σ.app (some d) ⟨.one (.ptr d 0),[],[],[(d,zv.cells.toList.map .v)]⟩) (fun es σ'=>K (⟨.one (.ptr d 0),[],[],[(d,zv.cells.toList.map .v)]⟩::es) σ')):
  RunK P X ops (⟨some d,.alloc t,ty,pos,af,gd⟩::l) σ K:=u_alloc hg hd hf hl
theorem v_buildS {t:TypeId} {parts:Array (Nat×Operand)} {z:Value} {pl:List (Nat×Nat)} [hZ:Zer P t z] [hB:BldS P t pl] {ps:List (Nat×AV)} {cs:List C} (hg:gOk ops σ.s gd:=by first | exact trivial | exact rfl) (hd:dB X.n dst=true:=by exact rfl) (hx:parts.toList.map (fun p=>(p.1,evC σ.s p.2))=ps:=by exact rfl) (hy:(ps.all fun p=>(acells p.2).all nlB)=true:=by exact rfl) (hc:fillC (pl[·]?) (z.cells.toList.map .v) ps=some cs:=by exact rfl) (hl:RunK P X ops l (σ.app dst ⟨.agg cs,[],[],[]⟩) (fun es σ'=>K (⟨.agg cs,[],[],[]⟩::es) σ')):
  RunK P X ops (⟨dst,.build t parts,ty,pos,af,gd⟩::l) σ K:=u_buildS hg hd hx hy hc hl
theorem v_buildA {t:TypeId} {parts:Array (Nat×Operand)} {z:Value} {n:Nat} [hZ:Zer P t z] [hB:BldA P t n] {ps:List (Nat×AV)} {cs:List C} (hg:gOk ops σ.s gd:=by first | exact trivial | exact rfl) (hd:dB X.n dst=true:=by exact rfl) (hx:parts.toList.map (fun p=>(p.1,evC σ.s p.2))=ps:=by exact rfl) (hy:(ps.all fun p=>(acells p.2).all nlB)=true:=by exact rfl) (hc:fillC (fun i=>some (i*n,n)) (z.cells.toList.map .v) ps=some cs:=by exact rfl) (hl:RunK P X ops l (σ.app dst ⟨.agg cs,[],[],[]⟩) (fun es σ'=>K (⟨.agg cs,[],[],[]⟩::es) σ')):
  RunK P X ops (⟨dst,.build t parts,ty,pos,af,gd⟩::l) σ K:=u_buildA hg hd hx hy hc hl
theorem v_extract {x:Operand} {i:Nat} {as:List AV} {a:AV} (hg:gOk ops σ.s gd:=by first | exact trivial | exact rfl) (hd:dB X.n dst=true:=by exact rfl) (hx:evC σ.s x= .tup as:=by exact rfl) (hc:as[i]?=some a:=by exact rfl) (hl:RunK P X ops l (σ.app dst ⟨a,[],[],[]⟩) (fun es σ'=>K (⟨a,[],[],[]⟩::es) σ')):
  RunK P X ops (⟨dst,.extract x i,ty,pos,af,gd⟩::l) σ K:=u_extract hg hd hx hc hl
theorem v_indexAddr {t:TypeId} {x y:Operand} {len:Nat} {agg:Bool} {n:Nat} [hF:Ary P t len agg n] {k off:Nat} {ik:IntKind} {i:Int} (hg:gOk ops σ.s gd:=by first | exact trivial | exact rfl) (hd:dB X.n dst=true:=by exact rfl) (hx:evC σ.s x= .one (.ptr k off):=by exact rfl) (hy:evC σ.s y= .one (.v (.int ik i)):=by exact rfl) (hc:(decide (0≤i)&&decide (i<len))=true:=by exact rfl) (hl:RunK P X ops l (σ.app dst ⟨.one (.ptr k (off+i.toNat*n)),[],[],[]⟩) (fun es σ'=>K (⟨.one (.ptr k (off+i.toNat*n)),[],[],[]⟩::es) σ')):
  RunK P X ops (⟨dst,.indexAddr t x y,ty,pos,af,gd⟩::l) σ K:=u_indexAddr hg hd hx hy hc hl
theorem v_field {t:TypeId} {x:Operand} {i off:Nat} {agg:Bool} {n:Nat} [hF:Fld P t i off agg n] {cs:List C} (hg:gOk ops σ.s gd:=by first | exact trivial | exact rfl) (hd:dB X.n dst=true:=by exact rfl) (hx:evC σ.s x= .agg cs:=by exact rfl) (hc:(Nat.ble (off+n) cs.length&&(agg || Nat.beq n 1))=true:=by exact rfl) (hl:RunK P X ops l (σ.app dst ⟨mkA agg ((cs.drop off).take n),[],[],[]⟩) (fun es σ'=>K (⟨mkA agg ((cs.drop off).take n),[],[],[]⟩::es) σ')):
  RunK P X ops (⟨dst,.field t x i,ty,pos,af,gd⟩::l) σ K:=u_field hg hd hx hc hl
theorem v_index {t:TypeId} {x y:Operand} {len:Nat} {agg:Bool} {n:Nat} [hF:Ary P t len agg n] {cs:List C} {k:IntKind} {i:Int} (hg:gOk ops σ.s gd:=by first | exact trivial | exact rfl) (hd:dB X.n dst=true:=by exact rfl) (hx:evC σ.s x= .agg cs:=by exact rfl) (hy:evC σ.s y= .one (.v (.int k i)):=by exact rfl) (hi:(decide (0≤i)&&decide (i<len))=true:=by exact rfl) (hc:(Nat.ble (i.toNat*n+n) cs.length&&(agg || Nat.beq n 1))=true:=by exact rfl) (hl:RunK P X ops l (σ.app dst ⟨mkA agg ((cs.drop (i.toNat*n)).take n),[],[],[]⟩) (fun es σ'=>K (⟨mkA agg ((cs.drop (i.toNat*n)).take n),[],[],[]⟩::es) σ')):
  RunK P X ops (⟨dst,.index t x y,ty,pos,af,gd⟩::l) σ K:=u_index hg hd hx hy hi hc hl
theorem v_nilCheck {x:Operand} {k off:Nat} (hg:gOk ops σ.s gd:=by first | exact trivial | exact rfl) (hd:dB X.n dst=true:=by exact rfl) (hx:evC σ.s x= .one (.ptr k off):=by exact rfl) (hl:RunK P X ops l (σ.app dst ⟨.one (.ptr k off),[],[],[]⟩) (fun es σ'=>K (⟨.one (.ptr k off),[],[],[]⟩::es) σ')):
  RunK P X ops (⟨dst,.nilCheck x,ty,pos,af,gd⟩::l) σ K:=u_nilCheck hg hd hx hl
theorem v_not {t:TypeId} {x:Operand} {b:Bool} (hg:gOk ops σ.s gd:=by first | exact trivial | exact rfl) (hd:dB X.n dst=true:=by exact rfl) (hx:evC σ.s x= .one (.v (.bool b)):=by exact rfl) (hl:RunK P X ops l (σ.app dst ⟨.one (.v (.bool (!b))),[],[],[]⟩) (fun es σ'=>K (⟨.one (.v (.bool (!b))),[],[],[]⟩::es) σ')):
  RunK P X ops (⟨dst,.unOp .not t x,ty,pos,af,gd⟩::l) σ K:=u_not hg hd hx hl
theorem v_pickT {c x y:Operand} {av:AV} (hg:gOk ops σ.s gd:=by first | exact trivial | exact rfl) (hd:dB X.n dst=true:=by exact rfl) (hc:evC σ.s c= .one (.v (.bool true)):=by exact rfl) (hx:evC σ.s x=av:=by exact rfl) (hl:RunK P X ops l (σ.app dst ⟨av,[],[],[]⟩) (fun es σ'=>K (⟨av,[],[],[]⟩::es) σ')):
  RunK P X ops (⟨dst,.pick c x y,ty,pos,af,gd⟩::l) σ K:=u_pickT hg hd hc hx hl
theorem v_pickF {c x y:Operand} {av:AV} (hg:gOk ops σ.s gd:=by first | exact trivial | exact rfl) (hd:dB X.n dst=true:=by exact rfl) (hc:evC σ.s c= .one (.v (.bool false)):=by exact rfl) (hx:evC σ.s y=av:=by exact rfl) (hl:RunK P X ops l (σ.app dst ⟨av,[],[],[]⟩) (fun es σ'=>K (⟨av,[],[],[]⟩::es) σ')):
  RunK P X ops (⟨dst,.pick c x y,ty,pos,af,gd⟩::l) σ K:=u_pickF hg hd hc hx hl
theorem v_makeFunc' {P:Program} {X:Ctx} {ops l:List Oper} {σ:St} {K:List Eff→St→Prop} {dst:Option Tmp} {ty:TypeId} {pos:String} {af:Array Edge} {gd:Option (Nat×Bool)} {f:FuncId} {capt:Array Operand} {caps:List (Nat×Nat)} (hg:gOk ops σ.s gd:=by first | exact trivial | exact rfl) (hd:dB X.n dst=true:=by exact rfl) (hx:ptrsOf (capt.toList.map (evC σ.s))=some caps:=by exact rfl) (hl:RunK P X ops l (σ.app dst ⟨.one (.fn f caps),[],[],[]⟩) (fun es σ'=>K (⟨.one (.fn f caps),[],[],[]⟩::es) σ')):
  RunK P X ops (⟨dst,.makeFunc (.func f) #[] capt,ty,pos,af,gd⟩::l) σ K:=u_makeFunc' hg hd hx hl
theorem v_nilCheckFn {x:Operand} {f:FuncId} {caps:List (Nat×Nat)} (hg:gOk ops σ.s gd:=by first | exact trivial | exact rfl) (hd:dB X.n dst=true:=by exact rfl) (hx:evC σ.s x= .one (.fn f caps):=by exact rfl) (hl:RunK P X ops l (σ.app dst ⟨.one (.fn f caps),[],[],[]⟩) (fun es σ'=>K (⟨.one (.fn f caps),[],[],[]⟩::es) σ')):
  RunK P X ops (⟨dst,.nilCheck x,ty,pos,af,gd⟩::l) σ K:=u_nilCheckFn hg hd hx hl
theorem v_loadInt {t:TypeId} {x:Operand} [hT:Tsz P t false 1] {n:Int} (hg:gOk ops σ.s gd:=by first | exact trivial | exact rfl) (hd:dB X.n dst=true:=by exact rfl) (hx:evC σ.s x= .one (.iptr n):=by exact rfl) (hl:RunK P X ops l (σ.app dst ⟨.one (.v (.int .i64 n)),[],[],[]⟩) (fun es σ'=>K (⟨.one (.v (.int .i64 n)),[],[],[]⟩::es) σ')):
  RunK P X ops (⟨dst,.load t x,ty,pos,af,gd⟩::l) σ K:=u_loadInt hg hd hx hl
theorem v_len {t e:TypeId} {x:Operand} {ls:List Int} [hT:SliT P t e] (hg:gOk ops σ.s gd:=by first | exact trivial | exact rfl) (hd:dB X.n dst=true:=by exact rfl) (hx:evC σ.s x= .one (.ints ls):=by exact rfl) (hl:RunK P X ops l (σ.app dst ⟨.one (.v (.int .i64 ls.length)),[],[],[]⟩) (fun es σ'=>K (⟨.one (.v (.int .i64 ls.length)),[],[],[]⟩::es) σ')):
  RunK P X ops (⟨dst,.call ⟨.builtin .len,#[x],#[t]⟩,ty,pos,af,gd⟩::l) σ K:=u_len hg hd hx hl
theorem v_eqBool {t u:TypeId} {x y:Operand} {a b:Bool} [hT:BoolT P t] (hg:gOk ops σ.s gd:=by first | exact trivial | exact rfl) (hd:dB X.n dst=true:=by exact rfl) (hx:evC σ.s x= .one (.v (.bool a)):=by exact rfl) (hy:evC σ.s y= .one (.v (.bool b)):=by exact rfl) (hl:RunK P X ops l (σ.app dst ⟨.one (.v (.bool (a==b))),[],[],[]⟩) (fun es σ'=>K (⟨.one (.v (.bool (a==b))),[],[],[]⟩::es) σ')):
  RunK P X ops (⟨dst,.binOp .eql t x y u,ty,pos,af,gd⟩::l) σ K:=u_eqBool hg hd hx hy hl
theorem v_store {t:TypeId} {x y:Operand} {agg:Bool} {n:Nat} [hT:Tsz P t agg n] {k off:Nat} {av:AV} (hg:gOk ops σ.s gd:=by first | exact trivial | exact rfl) (hd:dB X.n dst=true:=by exact rfl) (hx:evC σ.s x= .one (.ptr k off):=by exact rfl) (hy:evC σ.s y=av:=by exact rfl) (hc:(Nat.beq (acells av).length n&&(isAggB av || Nat.beq n 1)&&Nat.ble (off+n) (σ.sz k)&&Nat.blt 0 n&&(acells av).all nlB)=true:=by kernel_rfl) (hl:RunK P X ops l (σ.app dst ⟨.junk,[],[(k,off,acells av)],[]⟩) (fun es σ'=>K (⟨.junk,[],[(k,off,acells av)],[]⟩::es) σ')):
  RunK P X ops (⟨dst,.store t x y,ty,pos,af,gd⟩::l) σ K:=u_store hg hd hx hy hc hl
theorem v_bin {op:BinOp} {t u:TypeId} {x y:Operand} {k:IntKind} {a b:Int} {v:Value} (hg:gOk ops σ.s gd:=by first | exact trivial | exact rfl) (hd:dB X.n dst=true:=by exact rfl) (hx:evC σ.s x= .one (.v (.int k a)):=by exact rfl) (hy:evC σ.s y= .one (.v (.int k b)):=by exact rfl) (hc:binR op k a b=some v:=by first | assumption | exact rfl) (hl:RunK P X ops l (σ.app dst ⟨.one (.v v),[],[],[]⟩) (fun es σ'=>K (⟨.one (.v v),[],[],[]⟩::es) σ')):
  RunK P X ops (⟨dst,.binOp op t x y u,ty,pos,af,gd⟩::l) σ K:=u_bin hg hd hx hy hc hl
theorem v_convert {t u:TypeId} {x:Operand} {k k':IntKind} {n m:Int} [hT:IntT P t k] [hU:IntT P u k'] (hg:gOk ops σ.s gd:=by first | exact trivial | exact rfl) (hd:dB X.n dst=true:=by exact rfl) (hx:evC σ.s x= .one (.v (.int k n)):=by exact rfl) (hc:k'.wrap n=m:=by first | assumption | exact rfl) (hl:RunK P X ops l (σ.app dst ⟨.one (.v (.int k' m)),[],[],[]⟩) (fun es σ'=>K (⟨.one (.v (.int k' m)),[],[],[]⟩::es) σ')):
  RunK P X ops (⟨dst,.convert t u x,ty,pos,af,gd⟩::l) σ K:=u_convert hg hd hx hc hl
theorem v_neg' {t:TypeId} {x:Operand} {k:IntKind} {n m:Int} (hg:gOk ops σ.s gd:=by first | exact trivial | exact rfl) (hd:dB X.n dst=true:=by exact rfl) (hx:evC σ.s x= .one (.v (.int k n)):=by exact rfl) (hc:k.wrap (0-n)=m:=by first | assumption | exact rfl) (hl:RunK P X ops l (σ.app dst ⟨.one (.v (.int k m)),[],[],[]⟩) (fun es σ'=>K (⟨.one (.v (.int k m)),[],[],[]⟩::es) σ')):
  RunK P X ops (⟨dst,.unOp .neg t x,ty,pos,af,gd⟩::l) σ K:=u_neg' hg hd hx hc hl
theorem v_max {x y:Operand} {ts:Array TypeId} {k k':IntKind} {a b m:Int} (hg:gOk ops σ.s gd:=by first | exact trivial | exact rfl) (hd:dB X.n dst=true:=by exact rfl) (hx:evC σ.s x= .one (.v (.int k a)):=by exact rfl) (hy:evC σ.s y= .one (.v (.int k' b)):=by exact rfl) (hc:(if a<b then b else a)=m:=by first | assumption | exact rfl) (hl:RunK P X ops l (σ.app dst ⟨.one (.v (.int k m)),[],[],[]⟩) (fun es σ'=>K (⟨.one (.v (.int k m)),[],[],[]⟩::es) σ')):
  RunK P X ops (⟨dst,.call ⟨.builtin .max,#[x,y],ts⟩,ty,pos,af,gd⟩::l) σ K:=u_max hg hd hx hy hc hl
theorem v_min {x y:Operand} {ts:Array TypeId} {k k':IntKind} {a b m:Int} (hg:gOk ops σ.s gd:=by first | exact trivial | exact rfl) (hd:dB X.n dst=true:=by exact rfl) (hx:evC σ.s x= .one (.v (.int k a)):=by exact rfl) (hy:evC σ.s y= .one (.v (.int k' b)):=by exact rfl) (hc:(if b<a then b else a)=m:=by first | assumption | exact rfl) (hl:RunK P X ops l (σ.app dst ⟨.one (.v (.int k m)),[],[],[]⟩) (fun es σ'=>K (⟨.one (.v (.int k m)),[],[],[]⟩::es) σ')):
  RunK P X ops (⟨dst,.call ⟨.builtin .min,#[x,y],ts⟩,ty,pos,af,gd⟩::l) σ K:=u_min hg hd hx hy hc hl
theorem v_call {A:World→Prop} [MonoA A] {c:Call} {f:FuncId} [hF:Fun P f] {as:List AV} {R:AV} (hA:A X.W0) (hc:Ctr P A f as R) (hg:gOk ops σ.s gd:=by first | exact trivial | exact rfl) (hd:dB X.n dst=true:=by exact rfl) (hcl:calleeOf σ.s c.callee=some (f,[]):=by exact rfl) (has:Ents (c.args.toList.map (evC σ.s)) as:=by first | exact Ents.of_eq rfl | ((repeat (first | exact Ents.nil' rfl | (refine Ents.cons' rfl ?_ ?_;focus (first | exact Ent.of_eq rfl | (refine Ent.agg' rfl ?_;(repeat (first | exact EntL.nil' rfl | (refine EntL.cons' rfl ?_ ?_;focus (first | exact EntC.of_eq rfl | (refine EntC.q rfl ?_;omega) | exact Z0 _ | exact Z2 _ | exact EntC.z0 (k:=0) | exact EntC.z1 (k:=0) | exact EntC.z2 (k:=0) | exact EntC.z0 | exact EntC.z1 | exact EntC.z2))));done) | (refine Ent.one' rfl ?_;(first | exact EntC.of_eq rfl | (refine EntC.q rfl ?_;omega) | exact Z0 _ | exact Z2 _ | exact EntC.z0 (k:=0) | exact EntC.z1 (k:=0) | exact EntC.z2 (k:=0) | exact EntC.z0 | exact EntC.z1 | exact EntC.z2))))));(first | done | fail))) (hl:RunK P X ops l (σ.app dst ⟨R,[],[],[]⟩) (fun es σ'=>K (⟨R,[],[],[]⟩::es) σ')):
  RunK P X ops (⟨dst,.call c,ty,pos,af,gd⟩::l) σ K:=u_call hA hg hd hcl has hc hl
theorem v_callE {A:World→Prop} [MonoA A] {c:Call} {f:FuncId} [hF:Fun P f] {as:List AV} {R:AV} (hA:A X.W0) (hc:Ctr P A f as R) (hg:gOk ops σ.s gd:=by first | exact trivial | exact rfl) (hd:dB X.n dst=true:=by exact rfl) (hcl:calleeOf σ.s c.callee=some (f,[]):=by exact rfl) (has:Ents (c.args.toList.map (evC σ.s)) as:=by exact Ents.of_eq rfl) (hl:RunK P X ops l (σ.app dst ⟨R,[],[],[]⟩) (fun es σ'=>K (⟨R,[],[],[]⟩::es) σ')):
  RunK P X ops (⟨dst,.call c,ty,pos,af,gd⟩::l) σ K:=u_call hA hg hd hcl has hc hl
theorem v_callM {A:World→Prop} [MonoA A] (hA:A X.W0) {c:Call} {f:FuncId} [hF:Fun P f] {as caps:List AV} {k:Nat} {b d:List C} {R:AV} (hc:CtrM P A f as [(k,b,d)] R) (hg:gOk ops σ.s gd:=by first | exact trivial | exact rfl) (hd:dB X.n dst=true:=by exact rfl) (hcl:calleeOf σ.s c.callee=some (f,caps):=by exact rfl)
  (has:Ents (c.args.toList.map (evC σ.s)++caps) as:=by exact Ents.of_eq rfl) (hrw:rdL (σ.m k) 0 b.length=b:=by exact rfl)
  (hb:((([]:List (Nat×List C)).all (fun p=>blkB σ.sz p.2.length p)&& [(k,b,d)].all (fun p=>blkB σ.sz p.2.2.length (p.1,p.2.1))&&((([]:List (Nat×List C)).map (·.1)++ [(k,b,d)].map (·.1)).all fun k=>(c.args.toList.map (evC σ.s)++caps).any (isPtr k)))=true):=by exact rfl)
  (hl:RunK P X ops l (σ.app dst ⟨R,[(k,0,b)],[(k,0,d)],[]⟩) (fun es σ'=>K (⟨R,[(k,0,b)],[(k,0,d)],[]⟩::es) σ')):
  RunK P X ops (⟨dst,.call c,ty,pos,af,gd⟩::l) σ K:=
 u_callM hA (ro:= []) (rw:= [(k,b,d)]) hg hd hcl has hc (fun p hp=>by cases hp) (fun p hp=>by obtain rfl:=List.mem_singleton.1 hp;exact hrw) hb (by simp) hl
theorem v_callN {A:World→Prop} [MonoA A] (hA:A X.W0) {c:Call} {f:FuncId} [hF:Fun P f] {as:List AV} {cs:List C} {d:Nat} (hc:CtrN P A f as cs) (hg:gOk ops σ.s gd:=by first | exact trivial | exact rfl) (hd:dB X.n (some d)=true:=by exact rfl) (hf:(Nat.beq (σ.sz d) 0&&!cs.isEmpty)=true:=by exact rfl) (hcl:calleeOf σ.s c.callee=some (f,[]):=by exact rfl)
  (has:Ents (c.args.toList.map (evC σ.s)) as:=by exact Ents.of_eq rfl)
  (hl:RunK P X ops l (σ.app (some d) ⟨.one (.ptr d 0),[],[],[(d,cs)]⟩) (fun es σ'=>K (⟨.one (.ptr d 0),[],[],[(d,cs)]⟩::es) σ')):
  RunK P X ops (⟨some d,.call c,ty,pos,af,gd⟩::l) σ K:=u_callN hA hg hd hf hcl has hc hl
end
theorem f_one {P:Program} {r:ResultVar} {R a:AV} {σ:St} (h:ResIs P σ r a:=by first | exact ResIs.tmp rfl | exact ResIs.cell inferInstance rfl rfl rfl rfl) (hE:Ent a R:=by (first | exact Ent.of_eq rfl | (refine Ent.agg' rfl ?_;(repeat (first | exact EntL.nil' rfl | (refine EntL.cons' rfl ?_ ?_;focus (first | exact EntC.of_eq rfl | (refine EntC.q rfl ?_;omega) | exact Z0 _ | exact Z2 _ | exact EntC.z0 (k:=0) | exact EntC.z1 (k:=0) | exact EntC.z2 (k:=0) | exact EntC.z0 | exact EntC.z1 | exact EntC.z2))));done) | (refine Ent.one' rfl ?_;(first | exact EntC.of_eq rfl | (refine EntC.q rfl ?_;omega) | exact Z0 _ | exact Z2 _ | exact EntC.z0 (k:=0) | exact EntC.z1 (k:=0) | exact EntC.z2 (k:=0) | exact EntC.z0 | exact EntC.z1 | exact EntC.z2)))):Fin P [r] [] R σ:=fin_one h hE
theorem f_two {P:Program} {r1 r2:ResultVar} {R a b:AV} {σ:St} (h1:ResIs P σ r1 a:=by first | exact ResIs.tmp rfl | exact ResIs.cell inferInstance rfl rfl rfl rfl) (h2:ResIs P σ r2 b:=by first | exact ResIs.tmp rfl | exact ResIs.cell inferInstance rfl rfl rfl rfl) (ha:([a,b].all fun a=>match a with | .tup _=>false | _=>true)=true:=by exact rfl) (hE:Ent (.tup [a,b]) R:=by first | exact Ent.of_eq rfl | (refine Ent.tup rfl ?_;(repeat (first | exact EntT.nil | (refine EntT.cons ?_ rfl rfl ?_;focus (first | exact Ent.of_eq rfl | (refine Ent.agg' rfl ?_;(repeat (first | exact EntL.nil' rfl | (refine EntL.cons' rfl ?_ ?_;focus (first | exact EntC.of_eq rfl | (refine EntC.q rfl ?_;omega) | exact Z0 _ | exact Z2 _ | exact EntC.z0 (k:=0) | exact EntC.z1 (k:=0) | exact EntC.z2 (k:=0) | exact EntC.z0 | exact EntC.z1 | exact EntC.z2))));done) | (refine Ent.one' rfl ?_;(first | exact EntC.of_eq rfl | (refine EntC.q rfl ?_;omega) | exact Z0 _ | exact Z2 _ | exact EntC.z0 (k:=0) | exact EntC.z1 (k:=0) | exact EntC.z2 (k:=0) | exact EntC.z0 | exact EntC.z1 | exact EntC.z2))))));(first | done | fail))):Fin P [r1,r2] [] R σ:=fin_two h1 h2 ha hE
theorem f_oneM {P:Program} {r:ResultVar} {R a:AV} {σ:St} {k:Nat} {b c:List C} (h:ResIs P σ r a:=by first | exact ResIs.tmp rfl | exact ResIs.cell inferInstance rfl rfl rfl rfl) (hE:Ent a R:=by (first | exact Ent.of_eq rfl | (refine Ent.agg' rfl ?_;(repeat (first | exact EntL.nil' rfl | (refine EntL.cons' rfl ?_ ?_;focus (first | exact EntC.of_eq rfl | (refine EntC.q rfl ?_;omega) | exact Z0 _ | exact Z2 _ | exact EntC.z0 (k:=0) | exact EntC.z1 (k:=0) | exact EntC.z2 (k:=0) | exact EntC.z0 | exact EntC.z1 | exact EntC.z2))));done) | (refine Ent.one' rfl ?_;(first | exact EntC.of_eq rfl | (refine EntC.q rfl ?_;omega) | exact Z0 _ | exact Z2 _ | exact EntC.z0 (k:=0) | exact EntC.z1 (k:=0) | exact EntC.z2 (k:=0) | exact EntC.z0 | exact EntC.z1 | exact EntC.z2)))) (hz:σ.sz k=c.length:=by exact rfl) (hm:EntL (rdL (σ.m k) 0 c.length) c:=by first | exact EntL.of_eq rfl | (repeat (first | exact EntL.nil' rfl | refine EntL.cons' rfl (by first | exact EntC.of_eq rfl | exact EntC.q rfl (by omega) | exact EntC.z0 (k:=0) | exact EntC.z1 (k:=0) | exact EntC.z2 (k:=0)) ?_))) (hn:c.all nlB=true:=by exact rfl):Fin P [r] [(k,b,c)] R σ:=fin_oneM h hE hz hm hn
end Go.Proofs.YtkmalkcgkcpcmaaGreatDoor
