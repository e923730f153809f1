/-
  Several texts in one: El, Em, En, Es.
-/
import Derived.Test.YtfineedhebhpaaaGreatDoorEx
import Derived.OwnWalk
namespace Go.Proofs.YtfineedhebhpaaaGreatDoor
open Go.RowKit
set_option linter.unusedVariables false
set_option linter.unusedSimpArgs false
theorem Ur {P:Program} {r:ResultVar} {R a:AV} {σ:St} {k:Nat} {b c:List C} (h:ResIs P σ r a) (hE:Ent a R) (hz:σ.sz k=c.length) (hm:EntL (rdL (σ.m k) 0 c.length) c) (hn:c.all nlB=true):Fin P [r] [(k,b,c)] R σ:=
 ⟨⟨[a],.cons h .nil,.inl rfl,hE⟩,fun p hp=>by
  obtain rfl:=List.mem_singleton.1 hp
  refine ⟨hz,fun i d hi=>?_⟩
  have hlt:=(List.getElem?_eq_some_iff.1 hi).1
  have h2:=DB (σ.m k) c.length 0 i hlt
  rw [Nat.zero_add] at h2
  exact ⟨hm.get i _ d h2 hi,DM (List.all_eq_true.1 hn d (List.mem_of_getElem? hi))⟩⟩
theorem Uq {P:Program} {r:ResultVar} {R a:AV} {σ:St} {bs:List (Nat×List C×List C)} (h:ResIs P σ r a) (hE:Ent a R) (hb: ∀p∈bs,σ.sz p.1=p.2.2.length∧rdL (σ.m p.1) 0 p.2.2.length=p.2.2∧p.2.2.all nlB=true):Fin P [r] bs R σ:=
 ⟨⟨[a],.cons h .nil,.inl rfl,hE⟩,fun p hp=>by
  obtain ⟨hz,hm,hn⟩:=hb p hp
  refine ⟨hz,fun i d hi=>?_⟩
  have hlt:=(List.getElem?_eq_some_iff.1 hi).1
  have h2:=DB (σ.m p.1) p.2.2.length 0 i hlt
  rw [Nat.zero_add,hm,hi] at h2
  exact ⟨Af.of_eq (Option.some.inj h2).symm,DM (List.all_eq_true.1 hn d (List.mem_of_getElem? hi))⟩⟩
theorem D4 {k:IntKind} {a b:Int} {c:Bool} (h:decide (a≤b)=c):Gl .leq k a b=some (.bool c):=by rw [←h];rfl
theorem AS {k:IntKind} {a b:Int} {c:Bool} (h:decide (a<b)=c):Gl .lss k a b=some (.bool c):=by rw [←h];rfl
theorem WM {k:IntKind} {a b:Int} {c:Bool} (h:decide (a>b)=c):Gl .gtr k a b=some (.bool c):=by rw [←h];rfl
theorem D7 {k:IntKind} {a b:Int} {c:Bool} (h:decide (a≥b)=c):Gl .geq k a b=some (.bool c):=by rw [←h];rfl
theorem FS {k:IntKind} {a b:Int} {c:Bool} (h:decide (a=b)=c):Gl .eql k a b=some (.bool c):=by
 rw [←h]
 show some (Value.bool (a==b))=_
 congr 2
theorem XB {k:IntKind} {a b:Int} (h:b≠0):Gl .rem k a b=some (.int k (a.tmod b)):=if_neg h
theorem BW {k:IntKind} {a b c:Int} (h:k.wrap (a+b)=c):Gl .add k a b=some (.int k c):=by rw [←h];rfl
theorem Cl {k:IntKind} {a b c:Int} (h:k.wrap (a-b)=c):Gl .sub k a b=some (.int k c):=by rw [←h];rfl
def GO (θ:Nat→Nat):C→C
 | .ptr k o=> .ptr (θ k) o
 | .fn f caps=> .fn f (caps.map fun p=>(θ p.1,p.2))
 | .gl k l e=> .gl (θ k) l e
 | .sx k o l c e=> .sx (θ k) o l c e
 | c=>c
def LK (θ:Nat→Nat):AV→AV
 | .one c=> .one (GO θ c)
 | .agg cs=> .agg (cs.map (GO θ))
 | a=>a
theorem PK {W0:World} {μ:Nat→Nat×Nat} {sz:Nat→Nat} {w:World} {x:Value} {θ:Nat→Nat} {c:C} (h:cc W0 μ sz w x (GO θ c)):cc W0 (fun i=>μ (θ i)) (fun i=>sz (θ i)) w x c:=by
 cases c with
 | fn f caps=>
   refine ⟨?_,fun p hp=>h.2 (θ p.1,p.2) (List.mem_map.2 ⟨p,hp,rfl⟩)⟩
   rw [h.1,List.map_map]
   rfl
 | q r j i=>
   match i with
   | 0=>exact h
   | 1=>exact h
   | _+2=>exact h
 | _=>exact h
theorem UL {W0:World} {μ:Nat→Nat×Nat} {sz:Nat→Nat} {w:World} {x:Value} {θ:Nat→Nat} {a:AV} (hn:E0 a=true) (h:cv W0 μ sz w x (LK θ a)):cv W0 (fun i=>μ (θ i)) (fun i=>sz (θ i)) w x a:=by
 cases a with
 | one c=>exact PK h
 | agg cs=>
   obtain ⟨l,rfl,hl⟩:=h
   refine ⟨l,rfl,by rw [hl.1];simp,fun i a c ha hc=>PK (hl.2 i a _ ha (by rw [List.getElem?_map,hc];rfl))⟩
 | tup l=>cases hn
 | junk=>trivial
theorem Oh {W0:World} {μ μ':Nat→Nat×Nat} {sz sz':Nat→Nat} {w:World} {k k':Nat} {cs:List C} (h:EG W0 μ sz w k cs) (hk:μ' k'=μ k) (hp:cs.all pfC=true):EG W0 μ' sz' w k' cs:=by
 obtain ⟨a,e,h1,h2,h3,h4,h5,h6⟩:=h
 exact ⟨a,e,by rw [hk];exact h1,by rw [hk];exact h2,h3,h4,fun o x c hx hc=>(h5 o x c hx hc).free (List.all_eq_true.1 hp c (List.mem_of_getElem? hc)),h6⟩
theorem BJ.ren {P:Program} {A:World→Prop} {f:FuncId} {args:List AV} {bs:List (Nat×List C×List C)} {R:AV} (h:BJ P A f args bs R) (θ:Nat→Nat) (hθ: ∀p∈bs,∀q∈bs,θ p.1=θ q.1→p.1=q.1) (hp:(pf R&&bs.all fun p=>p.2.1.all pfC&&p.2.2.all pfC)=true) (ht:args.all E0=true):
  BJ P A f (args.map (LK θ)) (bs.map fun p=>(θ p.1,p.2)) R:=by
 intro W0 w μ sz vs hA hk hb hi hv
 simp only [Bool.and_eq_true,List.all_eq_true] at hp
 obtain ⟨hR,hpb⟩:=hp
 have hpa: ∀p∈bs,p.2.1.all pfC=true∧p.2.2.all pfC=true:=fun p hpm=>⟨List.all_eq_true.2 (hpb p hpm).1,List.all_eq_true.2 (hpb p hpm).2⟩
 refine (h W0 w (fun i=>μ (θ i)) (fun i=>sz (θ i)) vs hA hk (fun p hpm=>?_) (fun p hpm q hqm hpq=>?_) ?_).mono ?_
 ·obtain ⟨h1,h2,h3,h4⟩:=hb (θ p.1,p.2) (List.mem_map.2 ⟨p,hpm,rfl⟩)
  exact ⟨h1,h2,h3,Oh h4 rfl (hpa p hpm).1⟩
 ·exact hθ p hpm q hqm (hi (θ p.1,p.2) (List.mem_map.2 ⟨p,hpm,rfl⟩) (θ q.1,q.2) (List.mem_map.2 ⟨q,hqm,rfl⟩) hpq)
 ·refine ⟨by rw [hv.1];simp,fun i v a hvi ha=>UL (List.all_eq_true.1 ht a (List.mem_of_getElem? ha)) (hv.2 i v _ hvi (by rw [List.getElem?_map,ha];rfl))⟩
 ·rintro e w' ⟨r,W',rfl,h1,hgr,h2,h3⟩
  refine ⟨r,W',rfl,⟨h1.os,h1.tape,h1.output,h1.size,fun g hg hD=>h1.block g hg ?_⟩,hgr,h2.free hR,fun p hpm=>?_⟩
  ·rintro ⟨p,hpm,rfl⟩
   exact hD ⟨(θ p.1,p.2),List.mem_map.2 ⟨p,hpm,rfl⟩,rfl⟩
  ·obtain ⟨q,hq,rfl⟩:=List.mem_map.1 hpm
   exact Oh (h3 q hq) rfl (hpa q hq).2
theorem BJ.at1 {P:Program} {A:World→Prop} {f:FuncId} {k0:Nat} {args:List AV} {b c:List C} {R:AV} (h:BJ P A f args [(k0,b,c)] R) (k:Nat) (hp:(pf R&& [(k0,b,c)].all fun p=>p.2.1.all pfC&&p.2.2.all pfC)=true) (ht:args.all E0=true):
  BJ P A f (args.map (LK fun _=>k)) [(k,b,c)] R:=
 h.ren (fun _=>k) (fun p hp q hq _=>by rw [List.mem_singleton.1 hp,List.mem_singleton.1 hq]) hp ht
def VJ (θ:Nat→Nat):AV→AV
 | .tup l=> .tup (l.map (LK θ))
 | a=>LK θ a
theorem I3 {W0:World} {μ:Nat→Nat×Nat} {sz:Nat→Nat} {w:World} {x:Value} {θ:Nat→Nat} {c:C} (h:cc W0 (fun i=>μ (θ i)) (fun i=>sz (θ i)) w x c):cc W0 μ sz w x (GO θ c):=by
 cases c with
 | fn f caps=>
   refine ⟨?_,fun p hp=>?_⟩
   ·rw [h.1,List.map_map]
    rfl
   ·obtain ⟨q,hq,rfl⟩:=List.mem_map.1 hp
    exact h.2 q hq
 | q r j i=>
   match i with
   | 0=>exact h
   | 1=>exact h
   | _+2=>exact h
 | _=>exact h
theorem Ob {W0:World} {μ:Nat→Nat×Nat} {sz:Nat→Nat} {w:World} {x:Value} {θ:Nat→Nat} {a:AV} (h:cv0 W0 (fun i=>μ (θ i)) (fun i=>sz (θ i)) w x a):cv0 W0 μ sz w x (LK θ a):=by
 cases a with
 | one c=>exact I3 (c:=c) h
 | agg cs=>
   obtain ⟨l,rfl,hl⟩:=h
   refine ⟨l,rfl,by rw [hl.1];simp,fun i a c ha hc=>?_⟩
   rw [List.getElem?_map] at hc
   cases hd:cs[i]? with
   | none=>rw [hd] at hc;cases hc
   | some d=>rw [hd] at hc;cases hc;exact I3 (hl.2 i a d ha hd)
 | tup l=>exact h
 | junk=>trivial
theorem Wh {W0:World} {μ:Nat→Nat×Nat} {sz:Nat→Nat} {w:World} {x:Value} {θ:Nat→Nat} {a:AV} (h:cv W0 (fun i=>μ (θ i)) (fun i=>sz (θ i)) w x a):cv W0 μ sz w x (VJ θ a):=by
 cases a with
 | one c=>exact I3 (c:=c) h
 | agg cs=>exact Ob (a:= .agg cs) h
 | tup l=>
   obtain ⟨vs,rfl,hl⟩:=h
   refine ⟨vs,rfl,by rw [hl.1];simp,fun i a c ha hc=>?_⟩
   rw [List.getElem?_map] at hc
   cases hd:l[i]? with
   | none=>rw [hd] at hc;cases hc
   | some d=>rw [hd] at hc;cases hc;exact Ob (hl.2 i a d ha hd)
 | junk=>trivial
theorem T6 {θ:Nat→Nat} {c:C} :nl (GO θ c)↔nl c:=by cases c<;>exact Iff.rfl
theorem Ml {W0:World} {μ:Nat→Nat×Nat} {sz:Nat→Nat} {w:World} {θ:Nat→Nat} {k:Nat} {cs:List C} :EG W0 μ sz w (θ k) (cs.map (GO θ))↔EG W0 (fun i=>μ (θ i)) (fun i=>sz (θ i)) w k cs:=by
 constructor
 ·rintro ⟨a,e,h1,h2,h3,h4,h5,h6⟩
  refine ⟨a,e,h1,h2,by simpa using h3,h4,fun o x c hx hc=>PK (h5 o x _ hx (by rw [List.getElem?_map,hc];rfl)),fun c hc=>T6.1 (h6 _ (List.mem_map.2 ⟨c,hc,rfl⟩))⟩
 ·rintro ⟨a,e,h1,h2,h3,h4,h5,h6⟩
  refine ⟨a,e,h1,h2,by simpa using h3,h4,fun o x c hx hc=>?_,fun c hc=>?_⟩
  ·rw [List.getElem?_map] at hc
   cases hd:cs[o]? with
   | none=>rw [hd] at hc;cases hc
   | some d=>rw [hd] at hc;cases hc;exact I3 (h5 o x d hx hd)
  ·obtain ⟨d,hd,rfl⟩:=List.mem_map.1 hc
   exact T6.2 (h6 d hd)
theorem QS {θ:Nat→Nat} (hθ: ∀k,θ (θ k)=k): ∀(ns:List (Nat×List C)) (z:Nat→Nat),alZ (fun i=>z (θ i)) ns=fun i=>alZ z (ns.map fun q=>(θ q.1,q.2.map (GO θ))) (θ i)
 | [],z=>rfl
 | q::ns,z=>by
   show alZ (upd (fun i=>z (θ i)) q.1 q.2.length) ns=fun i=>alZ (upd z (θ q.1) (q.2.map (GO θ)).length) (ns.map _) (θ i)
   rw [←QS hθ ns]
   congr 1
   funext i
   by_cases h:i=q.1
   ·subst h;rw [AI,AI];simp
   ·rw [Cj h,Cj fun h2=>h (by rw [←hθ i,h2,hθ])]
theorem C7.ren {P:Program} {A:World→Prop} {f:FuncId} {args:List AV} {bs:List (Nat×List C×List C)} {ns:List (Nat×List C)} {R:AV} (h:C7 P A f args bs ns R) (θ:Nat→Nat) (hθ: ∀k,θ (θ k)=k) (ht:args.all E0=true):
  C7 P A f (args.map (LK θ)) (bs.map fun p=>(θ p.1,p.2.1.map (GO θ),p.2.2.map (GO θ))) (ns.map fun q=>(θ q.1,q.2.map (GO θ))) (VJ θ R):=by
 intro W0 w μ sz vs hA hk hb hi hz hv
 have inj: ∀ {a b:Nat},θ a=θ b→a=b:=fun {a b} hab=>by rw [←hθ a,hab,hθ]
 refine (h W0 w (fun i=>μ (θ i)) (fun i=>sz (θ i)) vs hA hk (fun p hp=>?_) (fun p hp q hq hpq=>?_) (fun q hq=>hz (θ q.1,q.2.map (GO θ)) (List.mem_map.2 ⟨q,hq,rfl⟩)) ?_).mono ?_
 ·obtain ⟨h1,h2,h3,h4⟩:=hb _ (List.mem_map.2 ⟨p,hp,rfl⟩)
  exact ⟨by simpa using h1,fun h0=>h2 (by simp [h0]),h3,Ml.1 h4⟩
 ·exact inj (hi _ (List.mem_map.2 ⟨p,hp,rfl⟩) _ (List.mem_map.2 ⟨q,hq,rfl⟩) hpq)
 ·exact ⟨by rw [hv.1];simp,fun i v a hvi ha=>UL (List.all_eq_true.1 ht a (List.mem_of_getElem? ha)) (hv.2 i v _ hvi (by rw [List.getElem?_map,ha];rfl))⟩
 ·rintro e w' ⟨r,μ',W',rfl,h1,hgr,hμ,h2,h3,h4,h5⟩
  have hz':=QS hθ ns sz
  rw [hz'] at h2 h3 h4
  have em:μ'=fun i=>(fun j=>μ' (θ j)) (θ i):=funext fun i=>by show μ' i=μ' (θ (θ i));rw [hθ]
  refine ⟨r,fun j=>μ' (θ j),W',rfl,⟨h1.os,h1.tape,h1.output,h1.size,fun g hg hD=>h1.block g hg ?_⟩,hgr,fun k hk=>?_,?_,fun p hp=>?_,fun q hq=>?_,fun p hp q hq he=>?_⟩
  ·rintro ⟨p,hp,rfl⟩
   exact hD ⟨_,List.mem_map.2 ⟨p,hp,rfl⟩,rfl⟩
  ·show μ' (θ k)=μ k
   rw [hμ (θ k) fun q hq hqk=>hk _ (List.mem_map.2 ⟨q,hq,rfl⟩) (by rw [hqk,hθ]),hθ]
  ·rw [em] at h2
   exact Wh h2
  ·obtain ⟨q,hq,rfl⟩:=List.mem_map.1 hp
   have:=h3 q hq
   rw [em] at this
   exact Ml.2 this
  ·obtain ⟨p,hp,rfl⟩:=List.mem_map.1 hq
   obtain ⟨a1,a2,a3⟩:=h4 p hp
   rw [em] at a3
   refine ⟨?_,?_,Ml.2 a3⟩
   ·show _≤(μ' (θ (θ p.1))).1
    rw [hθ];exact a1
   ·show ¬alive W' (μ' (θ (θ p.1))).1
    rw [hθ];exact a2
  ·obtain ⟨p',hp',rfl⟩:=List.mem_map.1 hp
   obtain ⟨q',hq',rfl⟩:=List.mem_map.1 hq
   replace he:(μ' (θ (θ p'.1))).1=(μ' (θ (θ q'.1))).1:=he
   rw [hθ,hθ] at he
   exact congrArg θ (h5 p' hp' q' hq' he)
def swp (a b k:Nat):Nat:=if k=a then b else if k=b then a else k
theorem Vs (a b k:Nat):swp a b (swp a b k)=k:=by
 unfold swp
 by_cases h1:k=a
 ·subst h1
  rw [if_pos rfl]
  by_cases h2:b=k
  ·rw [if_pos h2,h2]
  ·rw [if_neg h2,if_pos rfl]
 ·rw [if_neg h1]
  by_cases h2:k=b
  ·rw [if_pos h2,if_pos rfl,h2]
  ·rw [if_neg h2,if_neg h1,if_neg h2]
def If:List AV→Option (List (Nat×Nat))
 | []=>some []
 | .one (.ptr k o)::r=>match If r with|some l=>some ((k,o)::l)|none=>none
 | _=>none
theorem KL: ∀ {l:List AV} {caps:List (Nat×Nat)},If l=some caps→l=caps.map fun p=> .one (.ptr p.1 p.2)
 | [],caps,h=>by cases h;rfl
 | .one (.ptr k o)::r,caps,h=>by
   unfold If at h
   cases hl:If r with
   | none=>rw [hl] at h;cases h
   | some l=>
     rw [hl] at h
     cases h
     rw [KL hl]
     rfl
 | .one (.v _)::_,_,h=>by cases h
 | .one (.q _ _ _)::_,_,h=>by cases h
 | .one (.fn _ _)::_,_,h=>by cases h
 | .one (.ints _)::_,_,h=>by cases h
 | .one (.iptr _)::_,_,h=>by cases h
 | .one (.gl _ _ _)::_,_,h=>by cases h
 | .one (.ls _ _ _)::_,_,h=>by cases h
 | .one (.fp _)::_,_,h=>by cases h
 | .one (.sx _ _ _ _ _)::_,_,h=>by cases h
 | .one .ny::_,_,h=>by cases h
 | .agg _::_,_,h=>by cases h
 | .tup _::_,_,h=>by cases h
 | .junk::_,_,h=>by cases h
theorem Mz {P:Program} {X:Ctx} {ops l:List Oper} {σ:St} {K:List Eff→St→Prop} {dst:Option Tmp} {ty:TypeId} {pos:String} {af:Array Edge} {gd:Option (Nat×Bool)} {f:FuncId} {capt:Array Operand} {caps:List (Nat×Nat)} (hg:gOk ops σ.s gd) (hd:dB X.n dst=true) (hx:If (capt.toList.map (evC σ.s))=some caps)
  (hl:Ah P X ops l (σ.app dst ⟨.one (.fn f caps),[],[],[]⟩) (fun es σ'=>K (⟨.one (.fn f caps),[],[],[]⟩::es) σ')):Ah P X ops (⟨dst,.makeFunc (.func f) #[] capt,ty,pos,af,gd⟩::l) σ K:=Oy hg hd (KL hx) hl
section
variable {P:Program} {X:Ctx} {ops l:List Oper} {σ:St} {K:List Eff→St→Prop} {ty:TypeId} {pos:String} {af:Array Edge} {gd:Option (Nat×Bool)}
end
theorem TR {P:Program} {dst:Option Tmp} {ty:TypeId} {pos:String} {af:Array Edge} {gd:Option (Nat×Bool)} {s:Nat→AV} {x y:Operand} {ts:Array TypeId} {k k':IntKind} {a b:Int} (hx:evC s x= .one (.v (.int k a))) (hy:evC s y= .one (.v (.int k' b))):Dc P ⟨dst,.call ⟨.builtin .min,#[x,y],ts⟩,ty,pos,af,gd⟩ s (.one (.v (.int k (if b<a then b else a)))):=fun W0 μ sz w ρ hρ=>by
 have h1:=hρ x (by simp [Op.operands,Call.operands])
 rw [hx] at h1
 replace h1:ρ x= .int k a:=h1
 have h2:=hρ y (by simp [Op.operands,Call.operands])
 rw [hy] at h2
 replace h2:ρ y= .int k' b:=h2
 exact ⟨_,by simp [execOp,resolve,invoke,builtin,Builtin.min_,Builtin.min2,h1,h2],rfl⟩
theorem TS {P:Program} {dst:Option Tmp} {ty:TypeId} {pos:String} {af:Array Edge} {gd:Option (Nat×Bool)} {s:Nat→AV} {x y:Operand} {ts:Array TypeId} {k k':IntKind} {a b:Int} (hx:evC s x= .one (.v (.int k a))) (hy:evC s y= .one (.v (.int k' b))):Dc P ⟨dst,.call ⟨.builtin .max,#[x,y],ts⟩,ty,pos,af,gd⟩ s (.one (.v (.int k (if a<b then b else a)))):=fun W0 μ sz w ρ hρ=>by
 have h1:=hρ x (by simp [Op.operands,Call.operands])
 rw [hx] at h1
 replace h1:ρ x= .int k a:=h1
 have h2:=hρ y (by simp [Op.operands,Call.operands])
 rw [hy] at h2
 replace h2:ρ y= .int k' b:=h2
 exact ⟨_,by simp [execOp,resolve,invoke,builtin,Builtin.max_,Builtin.max2,h1,h2],rfl⟩
section
variable {P:Program} {ops:Array Oper} {Q:Exit→Act→World→Prop} {rest:List Oper} {o:Oper} {a:Act} {w w':World} {v:Value}
end
section
variable {P:Program} {X:Ctx} {ops l:List Oper} {σ:St} {K:List Eff→St→Prop} {dst:Option Tmp} {ty:TypeId} {pos:String} {af:Array Edge} {gd:Option (Nat×Bool)}
theorem XH {x y:Operand} {ts:Array TypeId} {k k':IntKind} {a b m:Int} (hg:gOk ops σ.s gd) (hd:dB X.n dst=true) (hx:evC σ.s x= .one (.v (.int k a))) (hy:evC σ.s y= .one (.v (.int k' b))) (hc:(if a<b then b else a)=m)
  (hl:Ah P X ops l (σ.app dst ⟨.one (.v (.int k m)),[],[],[]⟩) (fun es σ'=>K (⟨.one (.v (.int k m)),[],[],[]⟩::es) σ')):Ah P X ops (⟨dst,.call ⟨.builtin .max,#[x,y],ts⟩,ty,pos,af,gd⟩::l) σ K:=by
 subst hc
 exact BR (o:=⟨dst,.call ⟨.builtin .max,#[x,y],ts⟩,ty,pos,af,gd⟩) hg hd (TS hx hy) hl
theorem XG {x y:Operand} {ts:Array TypeId} {k k':IntKind} {a b m:Int} (hg:gOk ops σ.s gd) (hd:dB X.n dst=true) (hx:evC σ.s x= .one (.v (.int k a))) (hy:evC σ.s y= .one (.v (.int k' b))) (hc:(if b<a then b else a)=m)
  (hl:Ah P X ops l (σ.app dst ⟨.one (.v (.int k m)),[],[],[]⟩) (fun es σ'=>K (⟨.one (.v (.int k m)),[],[],[]⟩::es) σ')):Ah P X ops (⟨dst,.call ⟨.builtin .min,#[x,y],ts⟩,ty,pos,af,gd⟩::l) σ K:=by
 subst hc
 exact BR (o:=⟨dst,.call ⟨.builtin .min,#[x,y],ts⟩,ty,pos,af,gd⟩) hg hd (TR hx hy) hl
end
def U7 (P:Program) (A:World→Prop) (f:FuncId) (args:List AV) (cs:List C):Prop:= ∀k,C7 P A f args [] [(k,cs)] (.one (.ptr k 0))
theorem S0 {k0 k:Nat} {c:C} (h:pfC c=true):GO (swp k0 k) c=c:=by
 cases c with
 | ptr i o=>cases h
 | gl i l e=>cases h
 | sx i o l c e=>cases h
 | fn f caps=>
   cases caps with
   | nil=>rfl
   | cons _ _=>cases h
 | _=>rfl
theorem NK {α:Type} {l:List α} {f:α→α} (h: ∀c∈l,f c=c):l.map f=l:=by
 induction l with
 | nil=>rfl
 | cons a l ih=>rw [List.map_cons,h a List.mem_cons_self,ih fun c hc=>h c (List.mem_cons_of_mem _ hc)]
theorem Qb {k0 k:Nat} {cs:List C} (h:cs.all pfC=true):cs.map (GO (swp k0 k))=cs:=NK fun c hc=>S0 (List.all_eq_true.1 h c hc)
theorem S6 {k0 k:Nat} {as:List AV} (h:as.all pf0=true):as.map (LK (swp k0 k))=as:=NK fun a ha=>by
 have:=List.all_eq_true.1 h a ha
 cases a with
 | one c=>exact congrArg AV.one (S0 this)
 | agg cs=>exact congrArg AV.agg (Qb this)
 | _=>rfl
theorem Pm {as:List AV} (h:as.all pf0=true):as.all E0=true:=List.all_eq_true.2 fun a ha=>by
 have:=List.all_eq_true.1 h a ha
 cases a with
 | tup l=>cases this
 | _=>rfl
theorem C7.at1 {P:Program} {A:World→Prop} {f:FuncId} {k0:Nat} {args:List AV} {cs:List C} {R:AV} (h:C7 P A f args [] [(k0,cs)] R) (ha:args.all pf0=true) (hc:cs.all pfC=true) (k:Nat):C7 P A f args [] [(k,cs)] (VJ (swp k0 k) R):=by
 have:=h.ren (swp k0 k) (Vs k0 k) (Pm ha)
 rw [S6 ha] at this
 simpa [Qb hc,swp] using this
theorem Sr {P:Program} {A:World→Prop} {f:FuncId} {fn:Func} {c:Code} {args:List AV} {cs:List C} {n:Nat} {rs:List ResultVar} (k:Nat) (hf:P.funcs[f]?=some fn) (hb:fn.body=some c) (hn:fn.ntmps=n) (hrs:fn.results=rs.toArray) (hle:Nat.ble args.length n=true)
  (hpf:(cs.all pfC&&args.all pf0&&!cs.isEmpty)=true)
  (h: ∀(W0 base:World) (D:Nat→Prop) (μ0:Nat→Nat×Nat),A W0→(∀g,D g→ ∃k∈([]:List Nat),g=(μ0 k).1)→Aw P ⟨W0,base,D,n,[],μ0⟩ c (stL (GF 0 args) []) (fun e σ=>(e= .normal∨e= .ret)∧Fin P rs [] (.one (.ptr k 0)) σ∧U6 [(k,cs)] σ)):U7 P A f args cs:=by
 simp only [Bool.and_eq_true,Bool.not_eq_true'] at hpf
 obtain ⟨⟨h1,h2⟩,h3⟩:=hpf
 intro k'
 have:=(CV (bs:= []) (ns:= [(k,cs)]) (R:= .one (.ptr k 0)) hf hb hn hrs hle (by
  simp only [Bool.and_eq_true,List.all_eq_true]
  refine ⟨⟨by simp [inA,inC],fun p hp=>(by cases hp)⟩,fun q hq=>?_⟩
  obtain rfl:=List.mem_singleton.1 hq
  exact ⟨fun c hc=>A7 (List.all_eq_true.1 h1 c hc) _,by rw [h3];rfl⟩) (List.all_eq_true.2 fun a ha=>by
   have:=List.all_eq_true.1 h2 a ha
   cases a with
   | one c=>exact A7 this _
   | agg cs=>exact LX this _
   | junk=>rfl
   | tup l=>cases this) (by simp) (fun p hp=>by cases hp) h).at1 h2 h1 k'
 simpa [VJ,LK,GO,swp] using this
theorem C7.weak {P:Program} {A:World→Prop} {f:FuncId} {args args':List AV} {bs:List (Nat×List C×List C)} {ns:List (Nat×List C)} {R R':AV} (h:C7 P A f args bs ns R) (ha:Ents args' args) (hr:Ent R R'):C7 P A f args' bs ns R':=
 fun W0 w μ sz vs hA hk hb hi hz hv=>(h W0 w μ sz vs hA hk hb hi hz (ha.all2 hv)).mono fun e w' ⟨r,μ',W',h1,h2,h5,h6,h3,h4⟩=>⟨r,μ',W',h1,h2,h5,h6,hr _ _ _ _ _ h3,h4⟩
section
variable {P:Program} {X:Ctx} {ops l:List Oper} {σ:St} {K:List Eff→St→Prop}
variable {dst:Option Tmp} {ty:TypeId} {pos:String} {af:Array Edge} {gd:Option (Nat×Bool)} {s:Nat→AV} {z:Nat→Nat}
theorem Vm {A:World→Prop} [MonoA A] (hA:A X.W0) {c:Call} {f:FuncId} [hF:Fun P f] {as:List AV} {R:AV} {ns:List (Nat×List C)} (hg:gOk ops σ.s gd) (hd:dB X.n dst=true) (hf:(ns.all fun q=>Nat.beq (σ.sz q.1) 0&&!q.2.isEmpty)=true) (hnd:(ns.map (·.1)).Nodup) (hcl:BA σ.s c.callee=some (f,[])) (has:Ents (c.args.toList.map (evC σ.s)) as) (hc:C7 P A f as [] ns R)
  (hl:Ah P X ops l (σ.app dst ⟨R,[],[],ns⟩) (fun es σ'=>K (⟨R,[],[],ns⟩::es) σ')):Ah P X ops (⟨dst,.call c,ty,pos,af,gd⟩::l) σ K:=by
 have hS:=Fh (X:=X) (dst:=dst) (ty:=ty) (pos:=pos) (af:=af) (gd:=gd) (s:=σ.s) (z:=σ.sz) hA (c:=c) (caps:= []) (ro:= []) (rw:= []) (ns:=ns) (ord:= []) (R:=R) (Dd hd) hcl rfl (by rw [List.append_nil];exact hc.weak has Ent.same) rfl rfl .nil rfl (fun p hp=>by cases hp) (fun p hp=>by cases hp) (fun q hq=>by cases hq)
 refine .of (fun _ _ hl=>Run.step hg hS (fun p hp=>by cases hp) ⟨fun p hp=>?_,hnd⟩ hl) hl
 have:=List.all_eq_true.1 hf p hp
 simp only [Bool.and_eq_true,Bool.not_eq_true'] at this
 exact ⟨by simpa using this.1,fun h=>by rw [h] at this;cases this.2⟩
theorem Vk {A:World→Prop} [MonoA A] (hA:A X.W0) {c:Call} {f:FuncId} [hF:Fun P f] {as:List AV} {cs:List C} {d:Nat} (hg:gOk ops σ.s gd) (hd:dB X.n (some d)=true) (hf:(Nat.beq (σ.sz d) 0&&!cs.isEmpty)=true) (hcl:BA σ.s c.callee=some (f,[])) (has:Ents (c.args.toList.map (evC σ.s)) as) (hc:U7 P A f as cs)
  (hl:Ah P X ops l (σ.app (some d) ⟨.one (.ptr d 0),[],[],[(d,cs)]⟩) (fun es σ'=>K (⟨.one (.ptr d 0),[],[],[(d,cs)]⟩::es) σ')):Ah P X ops (⟨some d,.call c,ty,pos,af,gd⟩::l) σ K:=
 Vm hA hg hd (by rw [List.all_cons,hf];rfl) (by simp) hcl has (hc d) hl
end
section
variable {P:Program} {X:Ctx} {ops l:List Oper} {σ:St} {K:List Eff→St→Prop} {dst:Option Tmp} {ty:TypeId} {pos:String} {af:Array Edge} {gd:Option (Nat×Bool)}
theorem DG {op:Op} {g:Nat} {want:Bool} (hg:ID ops σ.s g= .one (.v (.bool (!want))):=by first|exact trivial|exact rfl) (hl:Ah P X ops l (σ.app dst FR) (fun es σ'=>K (FR::es) σ')):
  Ah P X ops (⟨dst,op,ty,pos,af,some (g,want)⟩::l) σ K:=WU hg hl
theorem AK {x:Operand} {av:AV} (hg:gOk ops σ.s gd:=by first|exact trivial|exact rfl) (hd:dB X.n dst=true:=by exact rfl) (hx:evC σ.s x=av:=by exact rfl) (hl:Ah P X ops l (σ.app dst ⟨av,[],[],[]⟩) (fun es σ'=>K (⟨av,[],[],[]⟩::es) σ')):
  Ah P X ops (⟨dst,.move x,ty,pos,af,gd⟩::l) σ K:=WW hg hd hx hl
theorem As {x:Operand} {av:AV} (hg:gOk ops σ.s gd:=by first|exact trivial|exact rfl) (hd:dB X.n dst=true:=by exact rfl) (hx:evC σ.s x=av:=by exact rfl) (hl:Ah P X ops l (σ.app dst ⟨av,[],[],[]⟩) (fun es σ'=>K (⟨av,[],[],[]⟩::es) σ')):
  Ah P X ops (⟨dst,.assign x,ty,pos,af,gd⟩::l) σ K:=SO hg hd hx hl
theorem BB {t:TypeId} {x:Operand} {agg:Bool} {n:Nat} [hT:Tsz P t agg n] {k off:Nat} (hg:gOk ops σ.s gd:=by first|exact trivial|exact rfl) (hd:dB X.n dst=true:=by exact rfl) (hx:evC σ.s x= .one (.ptr k off):=by exact rfl) (hz:(Nat.ble (off+n) (σ.sz k)&&Nat.blt 0 n&&(agg || Nat.beq n 1))=true:=by exact rfl) (hl:Ah P X ops l (σ.app dst ⟨mkA agg (rdL (σ.m k) off n),[(k,off,rdL (σ.m k) off n)],[],[]⟩) (fun es σ'=>K (⟨mkA agg (rdL (σ.m k) off n),[(k,off,rdL (σ.m k) off n)],[],[]⟩::es) σ')):
  Ah P X ops (⟨dst,.load t x,ty,pos,af,gd⟩::l) σ K:=WX hg hd hx hz hl
theorem AB {t:TypeId} {x:Operand} {i fo:Nat} {agg:Bool} {n:Nat} [hF:Fld P t i fo agg n] {k off:Nat} (hg:gOk ops σ.s gd:=by first|exact trivial|exact rfl) (hd:dB X.n dst=true:=by exact rfl) (hx:evC σ.s x= .one (.ptr k off):=by exact rfl) (hl:Ah P X ops l (σ.app dst ⟨.one (.ptr k (off+fo)),[],[],[]⟩) (fun es σ'=>K (⟨.one (.ptr k (off+fo)),[],[],[]⟩::es) σ')):
  Ah P X ops (⟨dst,.fieldAddr t x i,ty,pos,af,gd⟩::l) σ K:=MF hg hd hx hl
theorem Fb {d:Nat} {t:TypeId} {x:Operand} {av:AV} (hg:gOk ops σ.s gd:=by first|exact trivial|exact rfl) (hd:dB X.n (some d)=true:=by exact rfl) (hx:evC σ.s x=av:=by exact rfl) (hc:((Dg av || Nat.beq (At av).length 1)&&(At av).all nlB&&Nat.beq (σ.sz d) 0&&!(At av).isEmpty)=true:=by exact rfl) (hl:Ah P X ops l (σ.app (some d) ⟨.one (.ptr d 0),[],[],[(d,At av)]⟩) (fun es σ'=>K (⟨.one (.ptr d 0),[],[],[(d,At av)]⟩::es) σ')):
  Ah P X ops (⟨some d,.box t x,ty,pos,af,gd⟩::l) σ K:=XJ hg hd hx hc hl
theorem BP {d:Nat} {t:TypeId} {zv:Value} [hZ:Zer P t zv] (hg:gOk ops σ.s gd:=by first|exact trivial|exact rfl) (hd:dB X.n (some d)=true:=by exact rfl) (hf:(Nat.beq (σ.sz d) 0&&!zv.cells.toList.isEmpty)=true:=by exact rfl) (hl:Ah P X ops l (σ.app (some d) ⟨.one (.ptr d 0),[],[],[(d,zv.cells.toList.map .v)]⟩) (fun es σ'=>K (⟨.one (.ptr d 0),[],[],[(d,zv.cells.toList.map .v)]⟩::es) σ')):
  Ah P X ops (⟨some d,.alloc t,ty,pos,af,gd⟩::l) σ K:=Vn hg hd hf hl
theorem BL {t:TypeId} {parts:Array (Nat×Operand)} {z:Value} {pl:List (Nat×Nat)} [hZ:Zer P t z] [hB:PS P t pl] {ps:List (Nat×AV)} {cs:List C} (hg:gOk ops σ.s gd:=by first|exact trivial|exact rfl) (hd:dB X.n dst=true:=by exact rfl) (hx:parts.toList.map (fun p=>(p.1,evC σ.s p.2))=ps:=by exact rfl) (hy:(ps.all fun p=>(At p.2).all nlB)=true:=by exact rfl) (hc:Dk (pl[·]?) (z.cells.toList.map .v) ps=some cs:=by exact rfl) (hl:Ah P X ops l (σ.app dst ⟨.agg cs,[],[],[]⟩) (fun es σ'=>K (⟨.agg cs,[],[],[]⟩::es) σ')):
  Ah P X ops (⟨dst,.build t parts,ty,pos,af,gd⟩::l) σ K:=SM hg hd hx hy hc hl
theorem BM {t:TypeId} {parts:Array (Nat×Operand)} {z:Value} {n:Nat} [hZ:Zer P t z] [hB:XD P t n] {ps:List (Nat×AV)} {cs:List C} (hg:gOk ops σ.s gd:=by first|exact trivial|exact rfl) (hd:dB X.n dst=true:=by exact rfl) (hx:parts.toList.map (fun p=>(p.1,evC σ.s p.2))=ps:=by exact rfl) (hy:(ps.all fun p=>(At p.2).all nlB)=true:=by exact rfl) (hc:Dk (fun i=>some (i*n,n)) (z.cells.toList.map .v) ps=some cs:=by exact rfl) (hl:Ah P X ops l (σ.app dst ⟨.agg cs,[],[],[]⟩) (fun es σ'=>K (⟨.agg cs,[],[],[]⟩::es) σ')):
  Ah P X ops (⟨dst,.build t parts,ty,pos,af,gd⟩::l) σ K:=SN hg hd hx hy hc hl
theorem Fa {x:Operand} {i:Nat} {as:List AV} {a:AV} (hg:gOk ops σ.s gd:=by first|exact trivial|exact rfl) (hd:dB X.n dst=true:=by exact rfl) (hx:evC σ.s x= .tup as:=by exact rfl) (hc:as[i]?=some a:=by exact rfl) (hl:Ah P X ops l (σ.app dst ⟨a,[],[],[]⟩) (fun es σ'=>K (⟨a,[],[],[]⟩::es) σ')):
  Ah P X ops (⟨dst,.extract x i,ty,pos,af,gd⟩::l) σ K:=Q8 hg hd hx hc hl
theorem AT {t:TypeId} {x y:Operand} {len:Nat} {agg:Bool} {n:Nat} [hF:Ary P t len agg n] {k off:Nat} {ik:IntKind} {i:Int} (hg:gOk ops σ.s gd:=by first|exact trivial|exact rfl) (hd:dB X.n dst=true:=by exact rfl) (hx:evC σ.s x= .one (.ptr k off):=by exact rfl) (hy:evC σ.s y= .one (.v (.int ik i)):=by exact rfl) (hc:(decide (0≤i)&&decide (i<len))=true:=by exact rfl) (hl:Ah P X ops l (σ.app dst ⟨.one (.ptr k (off+i.toNat*n)),[],[],[]⟩) (fun es σ'=>K (⟨.one (.ptr k (off+i.toNat*n)),[],[],[]⟩::es) σ')):
  Ah P X ops (⟨dst,.indexAddr t x y,ty,pos,af,gd⟩::l) σ K:=ME hg hd hx hy hc hl
theorem PY {t:TypeId} {x:Operand} {i off:Nat} {agg:Bool} {n:Nat} [hF:Fld P t i off agg n] {cs:List C} (hg:gOk ops σ.s gd:=by first|exact trivial|exact rfl) (hd:dB X.n dst=true:=by exact rfl) (hx:evC σ.s x= .agg cs:=by exact rfl) (hc:(Nat.ble (off+n) cs.length&&(agg || Nat.beq n 1))=true:=by exact rfl) (hl:Ah P X ops l (σ.app dst ⟨mkA agg ((cs.drop off).take n),[],[],[]⟩) (fun es σ'=>K (⟨mkA agg ((cs.drop off).take n),[],[],[]⟩::es) σ')):
  Ah P X ops (⟨dst,.field t x i,ty,pos,af,gd⟩::l) σ K:=Vj hg hd hx hc hl
theorem PX {t:TypeId} {x y:Operand} {len:Nat} {agg:Bool} {n:Nat} [hF:Ary P t len agg n] {cs:List C} {k:IntKind} {i:Int} (hg:gOk ops σ.s gd:=by first|exact trivial|exact rfl) (hd:dB X.n dst=true:=by exact rfl) (hx:evC σ.s x= .agg cs:=by exact rfl) (hy:evC σ.s y= .one (.v (.int k i)):=by exact rfl) (hi:(decide (0≤i)&&decide (i<len))=true:=by exact rfl) (hc:(Nat.ble (i.toNat*n+n) cs.length&&(agg || Nat.beq n 1))=true:=by exact rfl) (hl:Ah P X ops l (σ.app dst ⟨mkA agg ((cs.drop (i.toNat*n)).take n),[],[],[]⟩) (fun es σ'=>K (⟨mkA agg ((cs.drop (i.toNat*n)).take n),[],[],[]⟩::es) σ')):
  Ah P X ops (⟨dst,.index t x y,ty,pos,af,gd⟩::l) σ K:=Vi hg hd hx hy hi hc hl
theorem Fy {x:Operand} {k off:Nat} (hg:gOk ops σ.s gd:=by first|exact trivial|exact rfl) (hd:dB X.n dst=true:=by exact rfl) (hx:evC σ.s x= .one (.ptr k off):=by exact rfl) (hl:Ah P X ops l (σ.app dst ⟨.one (.ptr k off),[],[],[]⟩) (fun es σ'=>K (⟨.one (.ptr k off),[],[],[]⟩::es) σ')):
  Ah P X ops (⟨dst,.nilCheck x,ty,pos,af,gd⟩::l) σ K:=Ox hg hd hx hl
theorem Dx {t:TypeId} {x:Operand} {b:Bool} (hg:gOk ops σ.s gd:=by first|exact trivial|exact rfl) (hd:dB X.n dst=true:=by exact rfl) (hx:evC σ.s x= .one (.v (.bool b)):=by exact rfl) (hl:Ah P X ops l (σ.app dst ⟨.one (.v (.bool (!b))),[],[],[]⟩) (fun es σ'=>K (⟨.one (.v (.bool (!b))),[],[],[]⟩::es) σ')):
  Ah P X ops (⟨dst,.unOp .not t x,ty,pos,af,gd⟩::l) σ K:=XF hg hd hx hl
theorem C8 {c x y:Operand} {av:AV} (hg:gOk ops σ.s gd:=by first|exact trivial|exact rfl) (hd:dB X.n dst=true:=by exact rfl) (hc:evC σ.s c= .one (.v (.bool true)):=by exact rfl) (hx:evC σ.s x=av:=by exact rfl) (hl:Ah P X ops l (σ.app dst ⟨av,[],[],[]⟩) (fun es σ'=>K (⟨av,[],[],[]⟩::es) σ')):
  Ah P X ops (⟨dst,.pick c x y,ty,pos,af,gd⟩::l) σ K:=Vg hg hd hc hx hl
theorem C9 {c x y:Operand} {av:AV} (hg:gOk ops σ.s gd:=by first|exact trivial|exact rfl) (hd:dB X.n dst=true:=by exact rfl) (hc:evC σ.s c= .one (.v (.bool false)):=by exact rfl) (hx:evC σ.s y=av:=by exact rfl) (hl:Ah P X ops l (σ.app dst ⟨av,[],[],[]⟩) (fun es σ'=>K (⟨av,[],[],[]⟩::es) σ')):
  Ah P X ops (⟨dst,.pick c x y,ty,pos,af,gd⟩::l) σ K:=Vh hg hd hc hx hl
theorem FX {P:Program} {X:Ctx} {ops l:List Oper} {σ:St} {K:List Eff→St→Prop} {dst:Option Tmp} {ty:TypeId} {pos:String} {af:Array Edge} {gd:Option (Nat×Bool)} {f:FuncId} {capt:Array Operand} {caps:List (Nat×Nat)} (hg:gOk ops σ.s gd:=by first|exact trivial|exact rfl) (hd:dB X.n dst=true:=by exact rfl) (hx:If (capt.toList.map (evC σ.s))=some caps:=by exact rfl) (hl:Ah P X ops l (σ.app dst ⟨.one (.fn f caps),[],[],[]⟩) (fun es σ'=>K (⟨.one (.fn f caps),[],[],[]⟩::es) σ')):
  Ah P X ops (⟨dst,.makeFunc (.func f) #[] capt,ty,pos,af,gd⟩::l) σ K:=Mz hg hd hx hl
theorem D9 {x:Operand} {f:FuncId} {caps:List (Nat×Nat)} (hg:gOk ops σ.s gd:=by first|exact trivial|exact rfl) (hd:dB X.n dst=true:=by exact rfl) (hx:evC σ.s x= .one (.fn f caps):=by exact rfl) (hl:Ah P X ops l (σ.app dst ⟨.one (.fn f caps),[],[],[]⟩) (fun es σ'=>K (⟨.one (.fn f caps),[],[],[]⟩::es) σ')):
  Ah P X ops (⟨dst,.nilCheck x,ty,pos,af,gd⟩::l) σ K:=Lq hg hd hx hl
theorem H8 {t:TypeId} {x:Operand} [hT:Tsz P t false 1] {n:Int} (hg:gOk ops σ.s gd:=by first|exact trivial|exact rfl) (hd:dB X.n dst=true:=by exact rfl) (hx:evC σ.s x= .one (.iptr n):=by exact rfl) (hl:Ah P X ops l (σ.app dst ⟨.one (.v (.int .i64 n)),[],[],[]⟩) (fun es σ'=>K (⟨.one (.v (.int .i64 n)),[],[],[]⟩::es) σ')):
  Ah P X ops (⟨dst,.load t x,ty,pos,af,gd⟩::l) σ K:=Q7 hg hd hx hl
theorem B8 {t e:TypeId} {x:Operand} {ls:List Int} [hT:Mq P t e] (hg:gOk ops σ.s gd:=by first|exact trivial|exact rfl) (hd:dB X.n dst=true:=by exact rfl) (hx:evC σ.s x= .one (.ints ls):=by exact rfl) (hl:Ah P X ops l (σ.app dst ⟨.one (.v (.int .i64 ls.length)),[],[],[]⟩) (fun es σ'=>K (⟨.one (.v (.int .i64 ls.length)),[],[],[]⟩::es) σ')):
  Ah P X ops (⟨dst,.call ⟨.builtin .len,#[x],#[t]⟩,ty,pos,af,gd⟩::l) σ K:=XI hg hd hx hl
theorem Cc {t u:TypeId} {x y:Operand} {a b:Bool} [hT:Q4 P t] (hg:gOk ops σ.s gd:=by first|exact trivial|exact rfl) (hd:dB X.n dst=true:=by exact rfl) (hx:evC σ.s x= .one (.v (.bool a)):=by exact rfl) (hy:evC σ.s y= .one (.v (.bool b)):=by exact rfl) (hl:Ah P X ops l (σ.app dst ⟨.one (.v (.bool (a==b))),[],[],[]⟩) (fun es σ'=>K (⟨.one (.v (.bool (a==b))),[],[],[]⟩::es) σ')):
  Ah P X ops (⟨dst,.binOp .eql t x y u,ty,pos,af,gd⟩::l) σ K:=SK hg hd hx hy hl
theorem AO {t:TypeId} {x y:Operand} {agg:Bool} {n:Nat} [hT:Tsz P t agg n] {k off:Nat} {av:AV} (hg:gOk ops σ.s gd:=by first|exact trivial|exact rfl) (hd:dB X.n dst=true:=by exact rfl) (hx:evC σ.s x= .one (.ptr k off):=by exact rfl) (hy:evC σ.s y=av:=by exact rfl) (hc:(Nat.beq (At av).length n&&(Dg av || Nat.beq n 1)&&Nat.ble (off+n) (σ.sz k)&&Nat.blt 0 n&&(At av).all nlB)=true:=by kernel_rfl) (hl:Ah P X ops l (σ.app dst ⟨.junk,[],[(k,off,At av)],[]⟩) (fun es σ'=>K (⟨.junk,[],[(k,off,At av)],[]⟩::es) σ')):
  Ah P X ops (⟨dst,.store t x y,ty,pos,af,gd⟩::l) σ K:=Vf hg hd hx hy hc hl
theorem BN {op:BinOp} {t u:TypeId} {x y:Operand} {k:IntKind} {a b:Int} {v:Value} (hg:gOk ops σ.s gd:=by first|exact trivial|exact rfl) (hd:dB X.n dst=true:=by exact rfl) (hx:evC σ.s x= .one (.v (.int k a)):=by exact rfl) (hy:evC σ.s y= .one (.v (.int k b)):=by exact rfl) (hc:Gl op k a b=some v:=by first|assumption|exact rfl) (hl:Ah P X ops l (σ.app dst ⟨.one (.v v),[],[],[]⟩) (fun es σ'=>K (⟨.one (.v v),[],[],[]⟩::es) σ')):
  Ah P X ops (⟨dst,.binOp op t x y u,ty,pos,af,gd⟩::l) σ K:=XK hg hd hx hy hc hl
theorem Kw {t u:TypeId} {x:Operand} {k k':IntKind} {n m:Int} [hT:Mr P t k] [hU:Mr P u k'] (hg:gOk ops σ.s gd:=by first|exact trivial|exact rfl) (hd:dB X.n dst=true:=by exact rfl) (hx:evC σ.s x= .one (.v (.int k n)):=by exact rfl) (hc:k'.wrap n=m:=by first|assumption|exact rfl) (hl:Ah P X ops l (σ.app dst ⟨.one (.v (.int k' m)),[],[],[]⟩) (fun es σ'=>K (⟨.one (.v (.int k' m)),[],[],[]⟩::es) σ')):
  Ah P X ops (⟨dst,.convert t u x,ty,pos,af,gd⟩::l) σ K:=Q9 hg hd hx hc hl
theorem SJ {t:TypeId} {x:Operand} {k:IntKind} {n m:Int} (hg:gOk ops σ.s gd:=by first|exact trivial|exact rfl) (hd:dB X.n dst=true:=by exact rfl) (hx:evC σ.s x= .one (.v (.int k n)):=by exact rfl) (hc:k.wrap (0-n)=m:=by first|assumption|exact rfl) (hl:Ah P X ops l (σ.app dst ⟨.one (.v (.int k m)),[],[],[]⟩) (fun es σ'=>K (⟨.one (.v (.int k m)),[],[],[]⟩::es) σ')):
  Ah P X ops (⟨dst,.unOp .neg t x,ty,pos,af,gd⟩::l) σ K:=WV hg hd hx hc hl
theorem B7 {x y:Operand} {ts:Array TypeId} {k k':IntKind} {a b m:Int} (hg:gOk ops σ.s gd:=by first|exact trivial|exact rfl) (hd:dB X.n dst=true:=by exact rfl) (hx:evC σ.s x= .one (.v (.int k a)):=by exact rfl) (hy:evC σ.s y= .one (.v (.int k' b)):=by exact rfl) (hc:(if a<b then b else a)=m:=by first|assumption|exact rfl) (hl:Ah P X ops l (σ.app dst ⟨.one (.v (.int k m)),[],[],[]⟩) (fun es σ'=>K (⟨.one (.v (.int k m)),[],[],[]⟩::es) σ')):
  Ah P X ops (⟨dst,.call ⟨.builtin .max,#[x,y],ts⟩,ty,pos,af,gd⟩::l) σ K:=XH hg hd hx hy hc hl
theorem B6 {x y:Operand} {ts:Array TypeId} {k k':IntKind} {a b m:Int} (hg:gOk ops σ.s gd:=by first|exact trivial|exact rfl) (hd:dB X.n dst=true:=by exact rfl) (hx:evC σ.s x= .one (.v (.int k a)):=by exact rfl) (hy:evC σ.s y= .one (.v (.int k' b)):=by exact rfl) (hc:(if b<a then b else a)=m:=by first|assumption|exact rfl) (hl:Ah P X ops l (σ.app dst ⟨.one (.v (.int k m)),[],[],[]⟩) (fun es σ'=>K (⟨.one (.v (.int k m)),[],[],[]⟩::es) σ')):
  Ah P X ops (⟨dst,.call ⟨.builtin .min,#[x,y],ts⟩,ty,pos,af,gd⟩::l) σ K:=XG hg hd hx hy hc hl
theorem Df {A:World→Prop} [MonoA A] {c:Call} {f:FuncId} [hF:Fun P f] {as:List AV} {R:AV} (hA:A X.W0) (hc:Ctr P A f as R) (hg:gOk ops σ.s gd:=by first|exact trivial|exact rfl) (hd:dB X.n dst=true:=by exact rfl) (hcl:BA σ.s c.callee=some (f,[]):=by exact rfl) (has:Ents (c.args.toList.map (evC σ.s)) as:=by first|exact Ents.of_eq rfl|((repeat (first|exact Ents.nil' rfl|(refine Ents.cons' rfl ?_ ?_;focus (first|exact Ent.of_eq rfl|(refine Ent.agg' rfl ?_;(repeat (first|exact EntL.nil' rfl|(refine EntL.cons' rfl ?_ ?_;focus (first|exact Af.of_eq rfl|(refine Af.q rfl ?_;omega)|exact Z0 _|exact Z2 _|exact Af.z0 (k:=0)|exact Af.z1 (k:=0)|exact Af.z2 (k:=0)|exact Af.z0|exact Af.z1|exact Af.z2))));done)|(refine Ent.one' rfl ?_;(first|exact Af.of_eq rfl|(refine Af.q rfl ?_;omega)|exact Z0 _|exact Z2 _|exact Af.z0 (k:=0)|exact Af.z1 (k:=0)|exact Af.z2 (k:=0)|exact Af.z0|exact Af.z1|exact Af.z2))))));(first|done|fail))) (hl:Ah P X ops l (σ.app dst ⟨R,[],[],[]⟩) (fun es σ'=>K (⟨R,[],[],[]⟩::es) σ')):
  Ah P X ops (⟨dst,.call c,ty,pos,af,gd⟩::l) σ K:=SL hA hg hd hcl has hc hl
theorem AD {A:World→Prop} [MonoA A] {c:Call} {f:FuncId} [hF:Fun P f] {as:List AV} {R:AV} (hA:A X.W0) (hc:Ctr P A f as R) (hg:gOk ops σ.s gd:=by first|exact trivial|exact rfl) (hd:dB X.n dst=true:=by exact rfl) (hcl:BA σ.s c.callee=some (f,[]):=by exact rfl) (has:Ents (c.args.toList.map (evC σ.s)) as:=by exact Ents.of_eq rfl) (hl:Ah P X ops l (σ.app dst ⟨R,[],[],[]⟩) (fun es σ'=>K (⟨R,[],[],[]⟩::es) σ')):
  Ah P X ops (⟨dst,.call c,ty,pos,af,gd⟩::l) σ K:=SL hA hg hd hcl has hc hl
theorem EI {A:World→Prop} [MonoA A] (hA:A X.W0) {c:Call} {f:FuncId} [hF:Fun P f] {as caps:List AV} {k:Nat} {b d:List C} {R:AV} (hc:BJ P A f as [(k,b,d)] R) (hg:gOk ops σ.s gd:=by first|exact trivial|exact rfl) (hd:dB X.n dst=true:=by exact rfl) (hcl:BA σ.s c.callee=some (f,caps):=by exact rfl)
  (has:Ents (c.args.toList.map (evC σ.s)++caps) as:=by exact Ents.of_eq rfl) (hrw:rdL (σ.m k) 0 b.length=b:=by exact rfl)
  (hb:((([]:List (Nat×List C)).all (fun p=>EH σ.sz p.2.length p)&& [(k,b,d)].all (fun p=>EH σ.sz p.2.2.length (p.1,p.2.1))&&((([]:List (Nat×List C)).map (·.1)++ [(k,b,d)].map (·.1)).all fun k=>(c.args.toList.map (evC σ.s)++caps).any (KY k)))=true):=by exact rfl)
  (hl:Ah P X ops l (σ.app dst ⟨R,[(k,0,b)],[(k,0,d)],[]⟩) (fun es σ'=>K (⟨R,[(k,0,b)],[(k,0,d)],[]⟩::es) σ')):
  Ah P X ops (⟨dst,.call c,ty,pos,af,gd⟩::l) σ K:=
 Vl hA (ro:= []) (rw:= [(k,b,d)]) hg hd hcl has hc (fun p hp=>by cases hp) (fun p hp=>by obtain rfl:=List.mem_singleton.1 hp;exact hrw) hb (by simp) hl
theorem P3 {A:World→Prop} [MonoA A] (hA:A X.W0) {c:Call} {f:FuncId} [hF:Fun P f] {as:List AV} {cs:List C} {d:Nat} (hc:U7 P A f as cs) (hg:gOk ops σ.s gd:=by first|exact trivial|exact rfl) (hd:dB X.n (some d)=true:=by exact rfl) (hf:(Nat.beq (σ.sz d) 0&&!cs.isEmpty)=true:=by exact rfl) (hcl:BA σ.s c.callee=some (f,[]):=by exact rfl)
  (has:Ents (c.args.toList.map (evC σ.s)) as:=by exact Ents.of_eq rfl)
  (hl:Ah P X ops l (σ.app (some d) ⟨.one (.ptr d 0),[],[],[(d,cs)]⟩) (fun es σ'=>K (⟨.one (.ptr d 0),[],[],[(d,cs)]⟩::es) σ')):
  Ah P X ops (⟨some d,.call c,ty,pos,af,gd⟩::l) σ K:=Vk hA hg hd hf hcl has hc hl
end
theorem AA {P:Program} {r:ResultVar} {R a:AV} {σ:St} (h:ResIs P σ r a:=by first|exact ResIs.tmp rfl|exact ResIs.cell inferInstance rfl rfl rfl rfl) (hE:Ent a R:=by (first|exact Ent.of_eq rfl|(refine Ent.agg' rfl ?_;(repeat (first|exact EntL.nil' rfl|(refine EntL.cons' rfl ?_ ?_;focus (first|exact Af.of_eq rfl|(refine Af.q rfl ?_;omega)|exact Z0 _|exact Z2 _|exact Af.z0 (k:=0)|exact Af.z1 (k:=0)|exact Af.z2 (k:=0)|exact Af.z0|exact Af.z1|exact Af.z2))));done)|(refine Ent.one' rfl ?_;(first|exact Af.of_eq rfl|(refine Af.q rfl ?_;omega)|exact Z0 _|exact Z2 _|exact Af.z0 (k:=0)|exact Af.z1 (k:=0)|exact Af.z2 (k:=0)|exact Af.z0|exact Af.z1|exact Af.z2)))):Fin P [r] [] R σ:=V3 h hE
theorem X8 {P:Program} {r1 r2:ResultVar} {R a b:AV} {σ:St} (h1:ResIs P σ r1 a:=by first|exact ResIs.tmp rfl|exact ResIs.cell inferInstance rfl rfl rfl rfl) (h2:ResIs P σ r2 b:=by first|exact ResIs.tmp rfl|exact ResIs.cell inferInstance rfl rfl rfl rfl) (ha:([a,b].all fun a=>match a with | .tup _=>false|_=>true)=true:=by exact rfl) (hE:Ent (.tup [a,b]) R:=by first|exact Ent.of_eq rfl|(refine Ent.tup rfl ?_;(repeat (first|exact EntT.nil|(refine EntT.cons ?_ rfl rfl ?_;focus (first|exact Ent.of_eq rfl|(refine Ent.agg' rfl ?_;(repeat (first|exact EntL.nil' rfl|(refine EntL.cons' rfl ?_ ?_;focus (first|exact Af.of_eq rfl|(refine Af.q rfl ?_;omega)|exact Z0 _|exact Z2 _|exact Af.z0 (k:=0)|exact Af.z1 (k:=0)|exact Af.z2 (k:=0)|exact Af.z0|exact Af.z1|exact Af.z2))));done)|(refine Ent.one' rfl ?_;(first|exact Af.of_eq rfl|(refine Af.q rfl ?_;omega)|exact Z0 _|exact Z2 _|exact Af.z0 (k:=0)|exact Af.z1 (k:=0)|exact Af.z2 (k:=0)|exact Af.z0|exact Af.z1|exact Af.z2))))));(first|done|fail))):Fin P [r1,r2] [] R σ:=QC h1 h2 ha hE
theorem JV {P:Program} {r:ResultVar} {R a:AV} {σ:St} {k:Nat} {b c:List C} (h:ResIs P σ r a:=by first|exact ResIs.tmp rfl|exact ResIs.cell inferInstance rfl rfl rfl rfl) (hE:Ent a R:=by (first|exact Ent.of_eq rfl|(refine Ent.agg' rfl ?_;(repeat (first|exact EntL.nil' rfl|(refine EntL.cons' rfl ?_ ?_;focus (first|exact Af.of_eq rfl|(refine Af.q rfl ?_;omega)|exact Z0 _|exact Z2 _|exact Af.z0 (k:=0)|exact Af.z1 (k:=0)|exact Af.z2 (k:=0)|exact Af.z0|exact Af.z1|exact Af.z2))));done)|(refine Ent.one' rfl ?_;(first|exact Af.of_eq rfl|(refine Af.q rfl ?_;omega)|exact Z0 _|exact Z2 _|exact Af.z0 (k:=0)|exact Af.z1 (k:=0)|exact Af.z2 (k:=0)|exact Af.z0|exact Af.z1|exact Af.z2)))) (hz:σ.sz k=c.length:=by exact rfl) (hm:EntL (rdL (σ.m k) 0 c.length) c:=by first|exact EntL.of_eq rfl|(repeat (first|exact EntL.nil' rfl|refine EntL.cons' rfl (by first|exact Af.of_eq rfl|exact Af.q rfl (by omega)|exact Af.z0 (k:=0)|exact Af.z1 (k:=0)|exact Af.z2 (k:=0)) ?_))) (hn:c.all nlB=true:=by exact rfl):Fin P [r] [(k,b,c)] R σ:=Ur h hE hz hm hn
theorem Sh {P:Program} {r:ResultVar} {R a:AV} {σ:St} {bs:List (Nat×List C×List C)} (h:ResIs P σ r a:=by first|exact ResIs.tmp rfl|exact ResIs.cell inferInstance rfl rfl rfl rfl) (hE:Ent a R:=by (first|exact Ent.of_eq rfl|(refine Ent.agg' rfl ?_;(repeat (first|exact EntL.nil' rfl|(refine EntL.cons' rfl ?_ ?_;focus (first|exact Af.of_eq rfl|(refine Af.q rfl ?_;omega)|exact Z0 _|exact Z2 _|exact Af.z0 (k:=0)|exact Af.z1 (k:=0)|exact Af.z2 (k:=0)|exact Af.z0|exact Af.z1|exact Af.z2))));done)|(refine Ent.one' rfl ?_;(first|exact Af.of_eq rfl|(refine Af.q rfl ?_;omega)|exact Z0 _|exact Z2 _|exact Af.z0 (k:=0)|exact Af.z1 (k:=0)|exact Af.z2 (k:=0)|exact Af.z0|exact Af.z1|exact Af.z2)))) (hb: ∀p∈bs,σ.sz p.1=p.2.2.length∧rdL (σ.m p.1) 0 p.2.2.length=p.2.2∧p.2.2.all nlB=true:=by exact fun p hp=>by simp only [List.mem_cons,List.not_mem_nil,or_false] at hp;rcases hp with rfl|rfl<;>exact ⟨rfl,rfl,rfl⟩):Fin P [r] bs R σ:=Uq h hE hb
end Go.Proofs.YtfineedhebhpaaaGreatDoor
