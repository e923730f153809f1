/-
  Several texts in one: Fj, Fk.
-/
import Derived.Test.YteiibidmicgjoaaGreatDoorFu
import Derived.Test.YteiibidmicgjoaaGreatDoorFx
import Derived.Test.YteiibidmicgjoaaGreatDoorGk
import Derived.Test.YteiibidmicgjoaaGreatDoorSs
namespace Go.Proofs.YteiibidmicgjoaaGreatDoor
open Go.RowKit
set_option linter.unusedVariables false
set_option linter.unusedSimpArgs false
theorem int_neg_cast (c:Int):((Int.neg c:Int):Rat)= -(c:Rat):=Rat.intCast_neg c
theorem sg_pos {k x:Rat} (hk:0<k): ∀ {s:Nat},sgOk x s↔sgOk (k*x) s:=by
 intro s
 have h0:k≠0:=fun h=>by rw [h] at hk;exact absurd hk Rat.lt_irrefl
 match s with
 | 0=>show x=0↔k*x=0;grind
 | 1=>
   show 0<x↔0<k*x
   constructor
   ·exact fun h=>Rat.mul_pos hk h
   ·intro h
    rcases Std.lt_trichotomy (a:=(0:Rat)) (b:=x) with h1 | h1 | h1
    ·exact h1
    ·rw [←h1] at h;grind
    ·have:=Rat.mul_pos hk (show 0< -x by grind)
     grind
 | 2=>
   show x<0↔k*x<0
   constructor
   ·intro h
    have:=Rat.mul_pos hk (show 0< -x by grind)
    grind
   ·intro h
    rcases Std.lt_trichotomy (a:=(0:Rat)) (b:=x) with h1 | h1 | h1
    ·have:=Rat.mul_pos hk h1
     grind
    ·rw [←h1] at h;grind
    ·exact h1
 | 3=>show x≠0↔k*x≠0;grind
 | _+4=>exact ⟨fun h=>h.elim,fun h=>h.elim⟩
theorem sg_flip {x:Rat} : ∀ {s:Nat},sgOk x s→sgOk (-x) (flipS true s):=by
 intro s h
 match s,h with
 | 0,h=>have h:x=0:=h;show-x=0;grind
 | 1,h=>have h:0<x:=h;show-x<0;grind
 | 2,h=>have h:x<0:=h;show 0< -x;grind
 | 3,h=>have h:x≠0:=h;show-x≠0;grind
theorem sg_one (x:Rat):sgOk x 0∨sgOk x 1∨sgOk x 2:=by
 rcases Std.lt_trichotomy (a:=(0:Rat)) (b:=x) with h1 | h1 | h1
 ·exact .inr (.inl h1)
 ·exact .inl h1.symm
 ·exact .inr (.inr h1)
theorem sg_imp {x:Rat} {s t:Nat} (h:sgOk x s) (hi:impS s t=true):sgOk x t:=by
 unfold impS at hi
 simp only [Bool.or_eq_true,Bool.and_eq_true,Nat.beq_eq] at hi
 rcases hi with rfl | ⟨rfl,rfl | rfl⟩
 ·exact h
 ·exact sg_ne h (.inl rfl)
 ·exact sg_ne h (.inr rfl)
section
variable {E:Env}
theorem prim_ok {p:Poly} {C:Bool→Poly→Bool} (h:prim p C=true): ∃ng q,C ng q=true∧ ∃k:Rat,0<k∧ ∀V,evP V p=(match ng with | true=> -(k*evP V q) | false=>k*evP V q):=by
 unfold prim at h
 rw [natK_eq] at h
 have triv:C false p=true→ ∃ng q,C ng q=true∧ ∃k:Rat,0<k∧ ∀V,evP V p=(match ng with | true=> -(k*evP V q) | false=>k*evP V q):=fun h=>
  ⟨false,p,h,1,by decide,fun V=>by show _=1*evP V p;grind⟩
 simp only at h
 split at h
 ·exact triv h
 ·rw [polyK_eq] at h
  split at h
  ·rename_i hc
   rw [Bool.and_eq_true] at hc
   have he:=peq_ok hc.1
   have hg:0<gcdP p:=by simpa using hc.2
   have hg2:(0:Rat)<((gcdP p:Nat):Rat):=by
    have:((0:Nat):Rat)<((gcdP p:Nat):Rat):=Rat.natCast_lt_natCast.2 hg
    exact this
   refine ⟨_,_,h,((gcdP p:Nat):Rat),hg2,fun V=>?_⟩
   have hev:=congrArg (evP V) he
   rw [evP_pscale] at hev
   rw [←hev]
   cases negHead p with
   | true=>show ((Int.neg (.ofNat (gcdP p)):Int):Rat)*_= -(_*_);rw [int_neg_cast,ofNat_cast];grind
   | false=>show ((Int.ofNat (gcdP p):Int):Rat)*_=_*_;rw [ofNat_cast]
  ·exact triv h
theorem lookG_ok: ∀ {G:List Fact} {p:Poly} {s:Nat},lookG G p=some s→Sat E G→sgOk (evP E.V p) s
 | [],_,_,h,_=>by cases h
 | .sg q t::r,p,s,h,hs=>by
   unfold lookG at h
   split at h
   ·rename_i hq
    cases h
    rw [←peq_ok hq]
    exact (Sat.cons.1 hs).1
   ·exact lookG_ok h (Sat.cons.1 hs).2
 | .nx _ _ _ _::r,p,s,h,hs=>lookG_ok (G:=r) h (Sat.cons.1 hs).2
def InfOk (E:Env) (inf:Inf):Prop:= ∀h∈inf,¬ ∀x∈h,sgOk (evP E.V x.1) x.2
theorem deadB_ok {inf:Inf} (hI:InfOk E inf) {G:List Fact} (h:deadB inf G=true): ¬Sat E G:=fun hs=>by
 obtain ⟨l,hl,hh⟩:=List.any_eq_true.1 h
 refine hI l hl fun x hx=>?_
 have:=List.all_eq_true.1 hh x hx
 split at this
 ·rename_i s hsg
  exact sg_imp (lookG_ok hsg hs) this
 ·cases this
def TabOk (E:Env) (tab:Tab):Prop:= ∀x∈tab,evP E.V x.2≠0→E.V x.1*evP E.V x.2=1
def powR (x:Rat):Nat→Rat
 | 0=>1
 | n+1=>x*powR x n
theorem powR_add (x:Rat): ∀(a b:Nat),powR x (a+b)=powR x a*powR x b
 | 0,b=>by rw [Nat.zero_add];show _=1*_;grind
 | a+1,b=>by
   rw [Nat.succ_add]
   show x*powR x (a+b)=x*powR x a*powR x b
   rw [powR_add x a b];grind
theorem powR_mul (x y:Rat): ∀n,powR x n*powR y n=powR (x*y) n
 | 0=>by show (1:Rat)*1=1;grind
 | n+1=>by
   show x*powR x n*(y*powR y n)=x*y*powR (x*y) n
   rw [←powR_mul x y n];grind
theorem powR_one: ∀n,powR 1 n=1
 | 0=>rfl
 | n+1=>by show 1*powR 1 n=1;rw [powR_one n];grind
theorem evM_del {V:Nat→Rat} (a:Nat): ∀m:Mono,evM V m=powR (V a) (cntM a m)*evM V (delM a m)
 | []=>by show (1:Rat)=1*1;grind
 | b::m=>by
   unfold cntM delM
   have ih:=evM_del (V:=V) a m
   cases hb:Nat.beq a b with
   | true=>
     have:=Nat.eq_of_beq_eq_true hb
     subst this
     show V a*evM V m=V a*powR (V a) (cntM a m)*evM V (delM a m)
     rw [ih];grind
   | false=>
     show V b*evM V m=powR (V a) (cntM a m)*(V b*evM V (delM a m))
     rw [ih];grind
theorem evP_ppow {V:Nat→Rat} (D:Poly): ∀n,evP V (ppow D n)=powR (evP V D) n
 | 0=>by
   show ((1:Int):Rat)*1+0=1
   have:((1:Int):Rat)=1:=rfl
   rw [this];grind
 | n+1=>by
   show evP V (pmul D (ppow D n))=_
   rw [evP_pmul,evP_ppow D n];rfl
theorem evP_clrP {V:Nat→Rat} {a:Nat} {D:Poly} (h:V a*evP V D=1) (n:Nat): ∀p:Poly,degP a p≤n→evP V (clrP a D n p)=evP V p*powR (evP V D) n
 | [],_=>by show (0:Rat)=0*_;grind
 | (m,c)::p,hd=>by
   have hd1:cntM a m≤n:=Nat.le_trans (Nat.le_max_left _ _) (show Nat.max (cntM a m) (degP a p)≤n from hd)
   have hd2:degP a p≤n:=Nat.le_trans (Nat.le_max_right _ _) (show Nat.max (cntM a m) (degP a p)≤n from hd)
   show evP V (padd (pmulT (delM a m) c (ppow D (n-cntM a m))) (clrP a D n p))=((c:Rat)*evM V m+evP V p)*powR (evP V D) n
   rw [evP_padd,evP_pmulT,evP_ppow,evP_clrP h n p hd2,evM_del a m]
   have e1:powR (evP V D) n=powR (evP V D) (cntM a m)*powR (evP V D) (n-cntM a m):=by rw [←powR_add];congr 1;omega
   have e2:=powR_mul (V a) (evP V D) (cntM a m)
   rw [h,powR_one] at e2
   rw [e1]
   grind
theorem powR_even {x:Rat} (h:x≠0) (n:Nat) (hn:n % 2=0):0<powR x n:=by
 have: ∀k:Nat,0<powR x (k+k):=by
  intro k
  induction k with
  | zero=>show (0:Rat)<1;decide
  | succ k ih=>
    have e:k+1+(k+1)=(k+k)+2:=by omega
    rw [e]
    show 0<x*(x*powR x (k+k))
    have h2:0<x*x:=by
     rcases Std.lt_trichotomy (a:=(0:Rat)) (b:=x) with h1 | h1 | h1
     ·exact Rat.mul_pos h1 h1
     ·exact absurd h1.symm h
     ·have:=Rat.mul_pos (show 0< -x by grind) (show 0< -x by grind)
      grind
    have:=Rat.mul_pos h2 ih
    grind
 have h2:=this (n/2)
 rw [show n/2+n/2=n by omega] at h2
 exact h2
theorem clears_ok {G:List Fact} : ∀ {tab:Tab} {p:Poly} {C:Poly→Bool},TabOk E tab→clears G tab p C=true→ ∃q,C q=true∧(Sat E G→ ∃k:Rat,0<k∧evP E.V q=k*evP E.V p)
 | [],p,C,_,h=>⟨p,h,fun _=>⟨1,by decide,by grind⟩⟩
 | (a,D)::r,p,C,hT,h=>by
   have hr:TabOk E r:=fun x hx=>hT x (List.mem_cons_of_mem _ hx)
   unfold clears at h
   rw [natK_eq] at h
   split at h
   ·exact clears_ok hr h
   ·split at h
    ·rename_i s hs
     split at h
     ·rename_i hi
      rw [polyK_eq] at h
      obtain ⟨q,hq,hh⟩:=clears_ok hr h
      refine ⟨q,hq,fun hG=>?_⟩
      obtain ⟨k,hk,he⟩:=hh hG
      have hD:evP E.V D≠0:=sg_imp (lookG_ok hs hG) hi
      have hinv:=hT (a,D) List.mem_cons_self hD
      have hc:=evP_clrP hinv (degP a p+degP a p % 2) p (Nat.le_add_right _ _)
      refine ⟨k*powR (evP E.V D) (degP a p+degP a p % 2),Rat.mul_pos hk (powR_even hD _ (by omega)),?_⟩
      rw [he,hc];grind
     ·exact clears_ok hr h
    ·exact clears_ok hr h
theorem constS_ok (c:Int):sgOk (c:Rat) (constS c):=by
 cases c with
 | ofNat n=>
   show sgOk ((Int.ofNat n:Int):Rat) (match Nat.beq n 0 with | true=>0 | false=>1)
   cases hb:Nat.beq n 0 with
   | true=>
     rw [Nat.eq_of_beq_eq_true hb]
     show ((0:Int):Rat)=0
     rfl
   | false=>
     have:n≠0:=fun h=>by rw [h] at hb;simp at hb
     show (0:Rat)<((Int.ofNat n:Int):Rat)
     have:((0:Nat):Rat)<((n:Nat):Rat):=Rat.natCast_lt_natCast.2 (by omega)
     exact this
 | negSucc n=>
   show ((Int.negSucc n:Int):Rat)<0
   have:((Int.negSucc n:Int):Rat)<((0:Int):Rat):=Rat.intCast_lt_intCast.2 (Int.negSucc_lt_zero n)
   exact this
theorem evP_const (V:Nat→Rat) (c:Int):evP V [([],c)]=(c:Rat):=by
 show (c:Rat)*1+0=(c:Rat);grind
theorem constS_3 (c:Int):constS c=0∨constS c=1∨constS c=2:=by
 cases c with
 | ofNat n=>
   show (match Nat.beq n 0 with | true=>0 | false=>1)=0∨(match Nat.beq n 0 with | true=>0 | false=>1)=1∨(match Nat.beq n 0 with | true=>0 | false=>1)=2
   cases Nat.beq n 0 with
   | true=>exact .inl rfl
   | false=>exact .inr (.inl rfl)
 | negSucc n=>exact .inr (.inr rfl)
def okC (z:Bool) (s:Nat):Prop:=s=0∨s=1∨s=2∨(z=true∧s=3)
def AskOk (E:Env) (z:Bool) (x:Rat) (st:S) (q:Nat×S):Prop:=Sat E q.2.G∧q.2.sl=st.sl∧q.2.mem=st.mem∧okC z q.1∧sgOk x q.1
theorem mulS_ok {z:Bool} {x y:Rat} {s t:Nat} (hs:okC z s) (ht:okC z t) (h:sgOk x s) (k:sgOk y t):okC z (mulS s t)∧sgOk (x*y) (mulS s t):=by
 have m11: ∀ {a b:Rat},0<a→0<b→0<a*b:=fun h k=>Rat.mul_pos h k
 rcases hs with rfl | rfl | rfl | ⟨rfl,rfl⟩
 ·have h:x=0:=h
  exact ⟨.inl rfl,by show x*y=0;grind⟩
 ·have h:0<x:=h
  refine ⟨ht,?_⟩
  show sgOk (x*y) t
  exact (sg_pos h).1 k
 ·have h:x<0:=h
  have hn:0< -x:=by grind
  have key:sgOk (-(-x*y)) (flipS true t):=sg_flip ((sg_pos hn).1 k)
  have e: -(-x*y)=x*y:=by grind
  rw [e] at key
  have e2:mulS 2 t=flipS true t:=by
   rcases ht with rfl | rfl | rfl | ⟨_,rfl⟩<;>rfl
  rw [e2]
  refine ⟨?_,key⟩
  rcases ht with rfl | rfl | rfl | ⟨hz,rfl⟩
  ·exact .inl rfl
  ·exact .inr (.inr (.inl rfl))
  ·exact .inr (.inl rfl)
  ·exact .inr (.inr (.inr ⟨hz,rfl⟩))
 ·have h:x≠0:=h
  have key: ∀u:Nat,(u=1∨u=2∨u=3)→sgOk y u→sgOk (x*y) 3:=fun u hu k=>by
   have hy:y≠0:=by
    rcases hu with rfl | rfl | rfl
    ·exact sg_ne k (.inl rfl)
    ·exact sg_ne k (.inr rfl)
    ·exact k
   show x*y≠0
   intro h0
   rcases Rat.mul_eq_zero.1 h0 with h1 | h1
   ·exact h h1
   ·exact hy h1
  rcases ht with rfl | rfl | rfl | ⟨_,rfl⟩
  ·have k:y=0:=k
   exact ⟨.inl rfl,by show x*y=0;grind⟩
  ·exact ⟨.inr (.inr (.inr ⟨rfl,rfl⟩)),key 1 (.inl rfl) k⟩
  ·exact ⟨.inr (.inr (.inr ⟨rfl,rfl⟩)),key 2 (.inr (.inl rfl)) k⟩
  ·exact ⟨.inr (.inr (.inr ⟨rfl,rfl⟩)),key 3 (.inr (.inr rfl)) k⟩
theorem askB_ok {z:Bool} {inf:Inf} (hI:InfOk E inf) {q:Poly} {st:S} {C:List (Nat×S)→Bool} (h:askB z inf q st C=true): ∃l,C l=true∧(Sat E st.G→ ∃r∈l,AskOk E z (evP E.V q) st r):=by
 unfold askB at h
 simp only at h
 let go:Nat→List (Nat×S)→List (Nat×S):=fun s r=>match deadB inf (Fact.sg q s::st.G) with | true=>r | false=>(s,⟨st.sl,st.mem,st.nx,Fact.sg q s::st.G⟩)::r
 have keep: ∀s r x,x∈r→x∈go s r:=fun s r x hx=>by
  show x∈(match deadB inf (Fact.sg q s::st.G) with | true=>r | false=>_::r)
  cases deadB inf (Fact.sg q s::st.G) with
  | true=>exact hx
  | false=>exact List.mem_cons_of_mem _ hx
 have here: ∀s r,Sat E st.G→sgOk (evP E.V q) s→(s,(⟨st.sl,st.mem,st.nx,Fact.sg q s::st.G⟩:S))∈go s r:=fun s r hs hsg=>by
  show _∈(match deadB inf (Fact.sg q s::st.G) with | true=>r | false=>_::r)
  cases hb:deadB inf (Fact.sg q s::st.G) with
  | true=>exact absurd (Sat.cons.2 ⟨(show Fact.ok E (.sg q s) from hsg),hs⟩) (deadB_ok hI hb)
  | false=>exact List.mem_cons_self
 have out: ∀ {l:List (Nat×S)} {s:Nat},okC z s→Sat E st.G→sgOk (evP E.V q) s→(s,(⟨st.sl,st.mem,st.nx,Fact.sg q s::st.G⟩:S))∈l→ ∃r∈l,AskOk E z (evP E.V q) st r:=fun h3 hs hsg hm=>
  ⟨_,hm,Sat.cons.2 ⟨(show Fact.ok E (.sg q _) from hsg),hs⟩,rfl,rfl,h3,hsg⟩
 split at h
 ·split at h
  ·have h:C (go 3 (go 0 []))=true:=h
   refine ⟨_,h,fun hs=>?_⟩
   by_cases hz:evP E.V q=0
   ·exact out (.inl rfl) hs (show sgOk _ 0 from hz) (keep _ _ _ (here _ _ hs (show sgOk _ 0 from hz)))
   ·exact out (.inr (.inr (.inr ⟨rfl,rfl⟩))) hs (show sgOk _ 3 from hz) (here _ _ hs (show sgOk _ 3 from hz))
  ·have h:C (go 1 (go 2 (go 0 [])))=true:=h
   refine ⟨_,h,fun hs=>?_⟩
   rcases sg_one (evP E.V q) with h0 | h0 | h0
   ·exact out (.inl rfl) hs h0 (keep _ _ _ (keep _ _ _ (here _ _ hs h0)))
   ·exact out (.inr (.inl rfl)) hs h0 (here _ _ hs h0)
   ·exact out (.inr (.inr (.inl rfl))) hs h0 (keep _ _ _ (here _ _ hs h0))
 ·rename_i hl
  split at h
  ·exact ⟨_,h,fun hs=>⟨_,List.mem_singleton.2 rfl,hs,rfl,rfl,.inr (.inr (.inr ⟨rfl,rfl⟩)),lookG_ok hl hs⟩⟩
  ·have h:C (go 1 (go 2 []))=true:=h
   refine ⟨_,h,fun hs=>?_⟩
   rcases sg_one (evP E.V q) with h0 | h0 | h0
   ·exact absurd h0 (lookG_ok hl hs)
   ·exact out (.inr (.inl rfl)) hs h0 (here _ _ hs h0)
   ·exact out (.inr (.inr (.inl rfl))) hs h0 (keep _ _ _ (here _ _ hs h0))
 ·rename_i s hne hl
  refine ⟨_,h,fun hs=>⟨_,List.mem_singleton.2 rfl,hs,rfl,rfl,?_,lookG_ok hl hs⟩⟩
  have:=lookG_ok hl hs
  match s,this,hne with
  | 0,_,_=>exact .inl rfl
  | 1,_,_=>exact .inr (.inl rfl)
  | 2,_,_=>exact .inr (.inr (.inl rfl))
  | 3,_,hne=>exact absurd rfl hne
theorem evP_atom (V:Nat→Rat) (a:Nat):evP V [([a],1)]=V a:=by
 show ((1:Int):Rat)*(V a*1)+0=V a
 have h1:((1:Int):Rat)=1:=rfl
 rw [h1];grind
theorem mapK_pre {α β:Type} {f:α→S→Outs β} {Pre:α→S→Prop} {R:α→S→β→S→Prop} (h: ∀a st C,f a st C=true→ ∃l,C l=true∧(Pre a st→ ∃q∈l,R a st q.1 q.2)): ∀(l:List (α×S)) (C:List (β×S)→Bool),mapK f l C=true→ ∃l',C l'=true∧ ∀p∈l,Pre p.1 p.2→ ∃q∈l',R p.1 p.2 q.1 q.2
 | [],C,hC=>⟨[],hC,fun p hp=>by cases hp⟩
 | (a,st)::r,C,hC=>by
   cases r with
   | nil=>
     have hC:f a st C=true:=hC
     obtain ⟨l,h1,h2⟩:=h a st C hC
     exact ⟨l,h1,fun p hp hs=>by
      obtain rfl:=List.mem_singleton.1 hp
      exact h2 hs⟩
   | cons b r=>
     have hC:f a st (fun x=>mapK f (b::r) fun y=>C (x++y))=true:=hC
     obtain ⟨x,h1,h2⟩:=h a st _ hC
     obtain ⟨y,h3,h4⟩:=mapK_pre h (b::r) _ h1
     refine ⟨x++y,h3,fun p hp hs=>?_⟩
     rcases List.mem_cons.1 hp with rfl | hp
     ·obtain ⟨q,hq,hh⟩:=h2 hs
      exact ⟨q,List.mem_append.2 (.inl hq),hh⟩
     ·obtain ⟨q,hq,hh⟩:=h4 p hp hs
      exact ⟨q,List.mem_append.2 (.inr hq),hh⟩
theorem AskOk.step {z:Bool} {x y:Rat} {st st':S} {q:Nat×S} (h1:st'.sl=st.sl) (h2:st'.mem=st.mem) (h:AskOk E z x st' q) (e:x=y):AskOk E z y st q:=e▸⟨h.1,h.2.1.trans h1,h.2.2.1.trans h2,h.2.2.2⟩
theorem askM_ok {z:Bool} {inf:Inf} (hI:InfOk E inf): ∀(m:Mono) (s:Nat) (x:Rat) (st:S) (C:List (Nat×S)→Bool),askM z inf m s st C=true→ ∃l,C l=true∧(Sat E st.G→okC z s→sgOk x s→ ∃r∈l,AskOk E z (x*evM E.V m) st r)
 | [],s,x,st,C,h=>⟨_,h,fun hs hc hx=>⟨_,List.mem_singleton.2 rfl,hs,rfl,rfl,hc,by
   have e:x*evM E.V []=x:=by show x*1=x;grind
   rw [e];exact hx⟩⟩
 | a::m,s,x,st,C,h=>by
   have h:askB z inf [([a],1)] st (fun l=>mapK (fun t st C=>match t with
    | 0=>C [(0,st)]
    | t=>askM z inf m (mulS s t) st C) l C)=true:=h
   obtain ⟨l1,h1,k1⟩:=askB_ok hI h
   have hg: ∀(t:Nat) (st:S) (C:List (Nat×S)→Bool),(match (generalizing:=false) t with
    | 0=>C [(0,st)]
    | t=>askM z inf m (mulS s t) st C)=true→ ∃l,C l=true∧((Sat E st.G∧okC z s∧sgOk x s∧okC z t∧sgOk (E.V a) t)→ ∃q∈l,AskOk E z (x*evM E.V (a::m)) st q):=fun t st C h=>by
    cases t with
    | zero=>
      refine ⟨_,h,fun ⟨hs,_,_,_,h0⟩=>⟨_,List.mem_singleton.2 rfl,hs,rfl,rfl,.inl rfl,?_⟩⟩
      have h0:E.V a=0:=h0
      show x*(E.V a*evM E.V m)=0
      rw [h0];grind
    | succ t=>
      obtain ⟨l,hl,kl⟩:=askM_ok hI m (mulS s (t+1)) (x*E.V a) st C h
      refine ⟨l,hl,fun ⟨hs,c1,x1,c2,x2⟩=>?_⟩
      obtain ⟨c3,x3⟩:=mulS_ok c1 c2 x1 x2
      obtain ⟨q,hq,hh⟩:=kl hs c3 x3
      exact ⟨q,hq,hh.step rfl rfl (by show x*E.V a*evM E.V m=x*(E.V a*evM E.V m);grind)⟩
   obtain ⟨l2,h2,k2⟩:=mapK_pre (f:=fun (t:Nat) st (C:List (Nat×S)→Bool)=>match t with
    | 0=>C [(0,st)]
    | t=>askM z inf m (mulS s t) st C) (Pre:=fun t st=>Sat E st.G∧okC z s∧sgOk x s∧okC z t∧sgOk (E.V a) t) (R:=fun t st u st'=>AskOk E z (x*evM E.V (a::m)) st (u,st')) hg l1 C h1
   refine ⟨l2,h2,fun hs hc hx=>?_⟩
   obtain ⟨r,hr,hra⟩:=k1 hs
   rw [evP_atom] at hra
   obtain ⟨u,hu,hua⟩:=k2 r hr ⟨hra.1,hc,hx,hra.2.2.2.1,hra.2.2.2.2⟩
   exact ⟨u,hu,hua.step hra.2.1 hra.2.2.1 rfl⟩
theorem askC_ok {z:Bool} {inf:Inf} (hI:InfOk E inf) {q:Poly} {st:S} {C:List (Nat×S)→Bool} (h:askC z inf q st C=true): ∃l,C l=true∧(Sat E st.G→ ∃r∈l,AskOk E z (evP E.V q) st r):=by
 unfold askC at h
 split at h
 ·rename_i c
  refine ⟨_,h,fun hs=>⟨_,List.mem_singleton.2 rfl,hs,rfl,rfl,?_,by rw [evP_const];exact constS_ok c⟩⟩
  rcases constS_3 c with h | h | h
  ·exact .inl h
  ·exact .inr (.inl h)
  ·exact .inr (.inr (.inl h))
 ·exact askB_ok hI h
theorem askQ_ok {z:Bool} {inf:Inf} (hI:InfOk E inf) {q:Poly} {st:S} {C:List (Nat×S)→Bool} (h:askQ z inf q st C=true): ∃l,C l=true∧(Sat E st.G→ ∃r∈l,AskOk E z (evP E.V q) st r):=by
 unfold askQ at h
 split at h
 ·exact askB_ok hI h
 ·rename_i m hm
  rw [monoK_eq,polyK_eq] at h
  split at h
  ·exact askB_ok hI h
  ·rename_i he
   have he:=congrArg (evP E.V) (peq_ok he)
   rw [evP_pmulT] at he
   have h1:((1:Int):Rat)=1:=rfl
   rw [h1] at he
   obtain ⟨l1,g1,k1⟩:=askM_ok hI (comM q) 1 1 st _ h
   have hg: ∀(s:Nat) (st:S) (C:List (Nat×S)→Bool),(match (generalizing:=false) s with
    | 0=>C [(0,st)]
    | s=>askC z inf (divM (comM q) q) st fun l=>mapK (fun t st C=>C [(mulS s t,st)]) l C)=true→ ∃l,C l=true∧((Sat E st.G∧okC z s∧sgOk (1*evM E.V (comM q)) s)→ ∃r∈l,AskOk E z (evP E.V q) st r):=fun s st C h=>by
    cases s with
    | zero=>
      refine ⟨_,h,fun ⟨hs,_,h0⟩=>⟨_,List.mem_singleton.2 rfl,hs,rfl,rfl,.inl rfl,?_⟩⟩
      have h0:1*evM E.V (comM q)=0:=h0
      show evP E.V q=0
      rw [←he,h0];grind
    | succ s=>
      have h:askC z inf (divM (comM q) q) st (fun l=>mapK (fun t st C=>C [(mulS (s+1) t,st)]) l C)=true:=h
      obtain ⟨l2,g2,k2⟩:=askC_ok hI h
      obtain ⟨l3,g3,k3⟩:=mapK_pre (f:=fun (t:Nat) st (C:List (Nat×S)→Bool)=>C [(mulS (s+1) t,st)]) (Pre:=fun _ _=>True) (R:=fun t st u st'=>u=mulS (s+1) t∧st'=st) (fun t st C h=>⟨_,h,fun _=>⟨_,List.mem_singleton.2 rfl,rfl,rfl⟩⟩) l2 C g2
      refine ⟨l3,g3,fun ⟨hs,c1,x1⟩=>?_⟩
      obtain ⟨r,hr,hra⟩:=k2 hs
      obtain ⟨u,hu,e1,e2⟩:=k3 r hr trivial
      obtain ⟨c3,x3⟩:=mulS_ok c1 hra.2.2.2.1 x1 hra.2.2.2.2
      refine ⟨u,hu,by rw [e2];exact hra.1,by rw [e2];exact hra.2.1,by rw [e2];exact hra.2.2.1,by rw [e1];exact c3,?_⟩
      rw [e1]
      rw [he] at x3
      exact x3
   obtain ⟨l4,g4,k4⟩:=mapK_pre (f:=fun (s:Nat) st (C:List (Nat×S)→Bool)=>match s with
    | 0=>C [(0,st)]
    | s=>askC z inf (divM (comM q) q) st fun l=>mapK (fun t st C=>C [(mulS s t,st)]) l C) (Pre:=fun s st=>Sat E st.G∧okC z s∧sgOk (1*evM E.V (comM q)) s) (R:=fun s st u st'=>AskOk E z (evP E.V q) st (u,st')) hg l1 C g1
   refine ⟨l4,g4,fun hs=>?_⟩
   obtain ⟨r,hr,hra⟩:=k1 hs (.inr (.inl rfl)) (show (0:Rat)<1 by decide)
   obtain ⟨u,hu,hua⟩:=k4 r hr ⟨hra.1,hra.2.2.2.1,hra.2.2.2.2⟩
   exact ⟨u,hu,hua.step hra.2.1 hra.2.2.1 rfl⟩
theorem flipL_mem (ng:Bool): ∀ {l:List (Nat×S)} {q:Nat×S},q∈l→(flipS ng q.1,q.2)∈flipL ng l
 | (s,st)::r,q,h=>by
   rcases List.mem_cons.1 h with rfl | h
   ·exact List.mem_cons_self
   ·exact List.mem_cons_of_mem _ (flipL_mem ng h)
theorem askP_ok {z:Bool} {tab:Tab} {inf:Inf} (hT:TabOk E tab) (hI:InfOk E inf) {p:Poly} {st:S} {C:List (Nat×S)→Bool} (h:askP z tab inf p st C=true): ∃l,C l=true∧(Sat E st.G→ ∃r∈l,AskOk E z (evP E.V p) st r):=by
 unfold askP at h
 rw [polyK_eq] at h
 obtain ⟨p1,h,hp1⟩:=clears_ok hT h
 split at h
 ·refine ⟨_,h,fun hs=>⟨(0,st),List.mem_singleton.2 rfl,hs,rfl,rfl,.inl rfl,?_⟩⟩
  obtain ⟨k,hk,he⟩:=hp1 hs
  exact (sg_pos hk).2 (by rw [←he];exact (rfl:(0:Rat)=0))
 ·rename_i c
  refine ⟨_,h,fun hs=>⟨(constS c,st),List.mem_singleton.2 rfl,hs,rfl,rfl,?_,?_⟩⟩
  ·rcases constS_3 c with h | h | h
   ·exact .inl h
   ·exact .inr (.inl h)
   ·exact .inr (.inr (.inl h))
  ·obtain ⟨k,hk,he⟩:=hp1 hs
   refine (sg_pos hk).2 ?_
   rw [←he,evP_const]
   exact constS_ok c
 ·obtain ⟨ng,q,h,k2,hk2,he2⟩:=prim_ok h
  obtain ⟨l,hl,kl⟩:=askQ_ok hI h
  refine ⟨_,hl,fun hs=>?_⟩
  obtain ⟨r,hr,h1,h2,h3,h4,h5⟩:=kl hs
  refine ⟨_,flipL_mem ng hr,h1,h2,h3,?_,?_⟩
  ·cases ng with
   | false=>exact h4
   | true=>
     rcases h4 with h4 | h4 | h4 | ⟨hz,h4⟩<;>rw [h4]
     ·exact .inl rfl
     ·exact .inr (.inr (.inl rfl))
     ·exact .inr (.inl rfl)
     ·exact .inr (.inr (.inr ⟨hz,rfl⟩))
  ·obtain ⟨k,hk,he⟩:=hp1 hs
   refine (sg_pos hk).2 ?_
   rw [←he,he2]
   cases ng with
   | true=>exact sg_flip ((sg_pos hk2).1 h5)
   | false=>exact (sg_pos hk2).1 h5
theorem askS_ok {tab:Tab} {inf:Inf} (hT:TabOk E tab) (hI:InfOk E inf) {p:Poly} {st:S} {C:List (Nat×S)→Bool} (h:askS tab inf p st C=true):
  ∃l,C l=true∧(Sat E st.G→ ∃q∈l,Sat E q.2.G∧q.2.sl=st.sl∧q.2.mem=st.mem∧(q.1=0∨q.1=1∨q.1=2)∧sgOk (evP E.V p) q.1):=by
 obtain ⟨l,hl,kl⟩:=askP_ok hT hI h
 refine ⟨l,hl,fun hs=>?_⟩
 obtain ⟨r,hr,h1,h2,h3,h4,h5⟩:=kl hs
 exact ⟨r,hr,h1,h2,h3,(by rcases h4 with h | h | h | ⟨h,_⟩;exact .inl h;exact .inr (.inl h);exact .inr (.inr h);cases h),h5⟩
theorem zeroL_mem: ∀ {l:List (Nat×S)} {q:Nat×S},q∈l→(Nat.beq q.1 0,q.2)∈zeroL l
 | (s,st)::r,q,h=>by
   rcases List.mem_cons.1 h with rfl | h
   ·exact List.mem_cons_self
   ·exact List.mem_cons_of_mem _ (zeroL_mem h)
theorem askZ_ok {tab:Tab} {inf:Inf} (hT:TabOk E tab) (hI:InfOk E inf) {p:Poly} {st:S} {C:List (Bool×S)→Bool} (h:askZ tab inf p st C=true):
  ∃l,C l=true∧(Sat E st.G→ ∃q∈l,Sat E q.2.G∧q.2.sl=st.sl∧q.2.mem=st.mem∧q.1=decide (evP E.V p=0)):=by
 obtain ⟨l,hl,kl⟩:=askP_ok hT hI h
 refine ⟨_,hl,fun hs=>?_⟩
 obtain ⟨r,hr,h1,h2,h3,h4,h5⟩:=kl hs
 refine ⟨_,zeroL_mem hr,h1,h2,h3,?_⟩
 show Nat.beq r.1 0=_
 rcases h4 with h | h | h | ⟨_,h⟩<;>rw [h] at h5⊢
 ·exact (decide_eq_true (show evP E.V p=0 from h5)).symm
 ·exact (decide_eq_false (sg_ne h5 (.inl rfl))).symm
 ·exact (decide_eq_false (sg_ne h5 (.inr rfl))).symm
 ·exact (decide_eq_false (show ¬evP E.V p=0 from h5)).symm
end
end Go.Proofs.YteiibidmicgjoaaGreatDoor
namespace Go.Proofs.YteiibidmicgjoaaGreatDoor
open Go.RowKit
set_option linter.unusedVariables false
set_option linter.unusedSimpArgs false
section
variable {P:Program} {A:World→Prop} {E:Env} {f:Nat}
def LfOk (P:Program) (A:World→Prop) (E:Env) (f:Nat) (lf:Leaf):Prop:=Snd E lf fun args st co st'=>st'.sl=st.sl∧st'.mem=st.mem∧CallOk P A E f args st co
theorem callOk_one {args:List KA} {st:S} {r:KA} (hF:Fun P f) (h:Ctr P A f (args.map (aK E)) (aK E r)):CallOk P A E f args st (one r):=
 ⟨hF,fun _=>h,fun cs h=>(by cases h),fun p hp=>(by cases hp),fun p hp=>(by cases hp)⟩
theorem numA_ok (n:Num) (j:Nat):aK E (numA n j)=nm j (n.ev E.V):=rfl
theorem numOf_ok {a:KA} {n:Num} {j:Nat} (h:numOf a=some (n,j)):Ent (aK E a) (nm j (n.ev E.V)):=by
 unfold numOf at h
 split at h
 ·rename_i n1 j1 n2 j2 n3 j3
  split at h
  ·rename_i hc
   cases h
   simp only [Bool.and_eq_true,Nat.beq_eq] at hc
   obtain ⟨⟨⟨h1,h2⟩,h3⟩,h4⟩:=hc
   have e1:=neq_ok h1
   have e2:=neq_ok h2
   subst e1;subst e2;subst h3;subst h4
   exact Ent.same
  ·cases h
 ·cases h
  have e:Num.ev E.V ⟨[],0⟩=0:=by
   show (0:Rat)/((0+1:Nat):Rat)=0
   have:((0+1:Nat):Rat)=1:=rfl
   rw [this];grind
  rw [e]
  exact Ent.agg (.cons EntC.z0 (.cons EntC.z1 (.cons EntC.z2 .nil)))
 ·cases h
theorem Ents.two {a b c d:AV} (h:Ent a b) (k:Ent c d):Ents [a,c] [b,d]:= .cons h (.cons k .nil)
theorem Ents.one1 {a b:AV} (h:Ent a b):Ents [a] [b]:= .cons h .nil
theorem small_ok {j:Nat} (h:small j=true):j≤100000000:=Nat.le_of_ble_eq_true h
theorem leaf2 {body:Num→Nat→Num→Nat→S→Outs CO}
  (h: ∀x j y k st C,body x j y k st C=true→ ∃l,C l=true∧(Sat E st.G→ ∃q∈l,Sat E q.2.G∧q.2.sl=st.sl∧q.2.mem=st.mem∧ ∃r,q.1=one r∧Ctr P A f [nm j (x.ev E.V),nm k (y.ev E.V)] (aK E r))) (hF:Fun P f):LfOk P A E f (on2 body):=fun args st C hC=>by
 unfold on2 at hC
 split at hC
 ·rename_i a b
  split at hC
  ·rename_i x j y k ha hb
   obtain ⟨l,hl,hh⟩:=h x j y k st C hC
   refine ⟨l,hl,fun hs=>?_⟩
   obtain ⟨q,hq,h1,h2,h3,r,h4,h5⟩:=hh hs
   refine ⟨q,hq,h1,h2,h3,?_⟩
   rw [h4]
   exact callOk_one hF (CtrM.weak h5 (Ents.two (numOf_ok ha) (numOf_ok hb)) Ent.same)
  ·cases hC
 ·cases hC
theorem leaf1 {body:Num→Nat→S→Outs CO}
  (h: ∀x j st C,body x j st C=true→ ∃l,C l=true∧(Sat E st.G→ ∃q∈l,Sat E q.2.G∧q.2.sl=st.sl∧q.2.mem=st.mem∧ ∃r,q.1=one r∧Ctr P A f [nm j (x.ev E.V)] (aK E r))) (hF:Fun P f):LfOk P A E f (on1 body):=fun args st C hC=>by
 unfold on1 at hC
 split at hC
 ·rename_i a
  split at hC
  ·rename_i x j ha
   obtain ⟨l,hl,hh⟩:=h x j st C hC
   refine ⟨l,hl,fun hs=>?_⟩
   obtain ⟨q,hq,h1,h2,h3,r,h4,h5⟩:=hh hs
   refine ⟨q,hq,h1,h2,h3,?_⟩
   rw [h4]
   exact callOk_one hF (CtrM.weak h5 (Ents.one1 (numOf_ok ha)) Ent.same)
  ·cases hC
 ·cases hC
theorem outs_mem {α:Type} {g:α→KA} : ∀ {l:List (α×S)} {p:α×S},p∈l→(one (g p.1),p.2)∈outs g l
 | (a,st)::r,p,hp=>by
   rcases List.mem_cons.1 hp with rfl | hp
   ·exact List.mem_cons_self
   ·exact List.mem_cons_of_mem _ (outs_mem hp)
theorem lf2_ok {fN:Num→Num→Num} {g:Rat→Rat→Rat} {s:Nat} (hF:Fun P f) (hg: ∀a b,(fN a b).ev E.V=g (a.ev E.V) (b.ev E.V)) (h: ∀ {j k:Nat} {x y:Rat},j≤100000000→k≤100000000→Ctr P A f [nm j x,nm k y] (nm (j+k+s) (g x y))):LfOk P A E f (lf2 fN s):=
 leaf2 (fun x j y k st C h=>by
  simp only [Bool.and_eq_true] at h
  obtain ⟨⟨h1,h2⟩,h3⟩:=h
  rw [numK_eq,natK_eq] at h3
  exact ⟨_,h3,fun hs=>⟨_,List.mem_singleton.2 rfl,hs,rfl,rfl,_,rfl,by rw [numA_ok,hg];exact h (small_ok h1) (small_ok h2)⟩⟩) hF
theorem lfNeg_ok (hF:Fun P f) (h: ∀ {j:Nat} {x:Rat},j≤100000000→Ctr P A f [nm j x] (nm (j+1) (-x))):LfOk P A E f lfNeg:=
 leaf1 (fun x j st C h2=>by
  rw [Bool.and_eq_true] at h2
  obtain ⟨h1,h3⟩:=h2
  rw [numK_eq,natK_eq] at h3
  exact ⟨_,h3,fun hs=>⟨_,List.mem_singleton.2 rfl,hs,rfl,rfl,_,rfl,by rw [numA_ok,nneg_ev];exact h (small_ok h1)⟩⟩) hF
theorem lfMid_ok (hF:Fun P f) (h: ∀ {j k:Nat} {x y:Rat},j≤100000000→k≤100000000→Ctr P A f [nm j x,nm k y] (nm (j+k+4) ((x+y)*ratOf false 1 2))):LfOk P A E f lfMid:=
 leaf2 (fun x j y k st C h2=>by
  simp only [Bool.and_eq_true] at h2
  obtain ⟨⟨h1,h2⟩,h3⟩:=h2
  rw [numK_eq,natK_eq] at h3
  have e:nhalf.ev E.V=ratOf false 1 2:=by
   have h1:ratOf false 1 2=(1:Rat)/2:=by unfold ratOf sg;rw [Rat.mkRat_eq_div];rfl
   have h2:((1+1:Nat):Rat)=2:=rfl
   have h3:((1:Int):Rat)=1:=rfl
   show (((1:Int):Rat)*1+0)/((1+1:Nat):Rat)=_
   rw [h1,h2,h3];grind
  exact ⟨_,h3,fun hs=>⟨_,List.mem_singleton.2 rfl,hs,rfl,rfl,_,rfl,by rw [numA_ok,nmul_ev,nadd_ev,e];exact h (small_ok h1) (small_ok h2)⟩⟩) hF
theorem lfInt_ok (hF:Fun P f) (h: ∀ {n:Int},(decide (-9223372036854775808≤n)&&decide (n<9223372036854775808))=true→Ctr P A f [.one (.v (.int .i64 n))] (nm 2 (n:Rat))):LfOk P A E f lfInt:=fun args st C hC=>by
 replace hC:(match (generalizing:=false) args with
  | [.one (.i .i64 n)]=>int64 n&&intK n fun n=>C [(one (numA (nint n) 2),st)]
  | _=>false)=true:=hC
 split at hC
 ·rename_i n
  rw [Bool.and_eq_true,intK_eq] at hC
  exact ⟨_,hC.2,fun hs=>⟨_,List.mem_singleton.2 rfl,hs,rfl,rfl,callOk_one hF (by rw [numA_ok,nint_ev];exact h hC.1)⟩⟩
 ·cases hC
theorem sgn_ok {x:Rat} {s:Nat} (h3:s=0∨s=1∨s=2) (h:sgOk x s):sgnR x=sgI s:=by
 rw [sgn_cmp]
 rcases h3 with rfl | rfl | rfl
 ·have h:x=0:=h
  rw [h];exact cmpR_eq 0
 ·exact cmpR_gt h
 ·exact cmpR_lt h
theorem sg_ev {V:Nat→Rat} {n:Num} {s:Nat} :sgOk (evP V n.p) s↔sgOk (n.ev V) s:=by
 have h0:(0:Rat)<((n.d+1:Nat):Rat):=by
  have:((0:Nat):Rat)<((n.d+1:Nat):Rat):=Rat.natCast_lt_natCast.2 (Nat.succ_pos _)
  exact this
 have e:evP V n.p=((n.d+1:Nat):Rat)*n.ev V:=by
  have:=succ_ne n.d
  unfold Num.ev
  grind
 rw [e]
 exact (sg_pos h0).symm
theorem ev_zero {V:Nat→Rat} {n:Num} :decide (evP V n.p=0)=decide (n.ev V=0):=by
 have h:=sg_ev (V:=V) (n:=n) (s:=0)
 have h:evP V n.p=0↔n.ev V=0:=h
 by_cases h1:n.ev V=0
 ·rw [decide_eq_true h1,decide_eq_true (h.2 h1)]
 ·rw [decide_eq_false h1,decide_eq_false fun h2=>h1 (h.1 h2)]
variable {tab:Tab} {inf:Inf}
theorem lfSign_ok (hT:TabOk E tab) (hI:InfOk E inf) (hF:Fun P f) (h: ∀ {j:Nat} {x:Rat},Ctr P A f [nm j x] (.one (.v (.int .i64 (sgnR x))))):LfOk P A E f (lfSign tab inf):=
 leaf1 (fun x j st C h2=>by
  obtain ⟨l,hl,hh⟩:=askS_ok hT hI h2
  refine ⟨_,hl,fun hs=>?_⟩
  obtain ⟨q,hq,h1,h2,h3,h4,h5⟩:=hh hs
  refine ⟨_,outs_mem hq,h1,h2,h3,_,rfl,?_⟩
  show Ctr P A f _ (.one (.v (.int .i64 (sgI q.1))))
  rw [←sgn_ok h4 (sg_ev.1 h5)]
  exact h) hF
theorem cmp_ok {x y:Num} {s:Nat} (h3:s=0∨s=1∨s=2) (h:sgOk (evP E.V (nsub x y).p) s):cmpR (x.ev E.V) (y.ev E.V)=sgI s:=by
 rw [ord_sub,←nsub_ev]
 exact sgn_ok h3 (sg_ev.1 h)
theorem lfCmp_ok (hT:TabOk E tab) (hI:InfOk E inf) (hF:Fun P f) (h: ∀ {j k:Nat} {x y:Rat},j≤100000000→k≤100000000→Ctr P A f [nm j x,nm k y] (.one (.v (.int .i64 (cmpR x y))))):LfOk P A E f (lfCmp tab inf):=
 leaf2 (fun x j y k st C h2=>by
  simp only [Bool.and_eq_true] at h2
  obtain ⟨⟨a1,a2⟩,h2⟩:=h2
  obtain ⟨l,hl,hh⟩:=askS_ok hT hI h2
  refine ⟨_,hl,fun hs=>?_⟩
  obtain ⟨q,hq,h1,h2,h3,h4,h5⟩:=hh hs
  refine ⟨_,outs_mem hq,h1,h2,h3,_,rfl,?_⟩
  show Ctr P A f _ (.one (.v (.int .i64 (sgI q.1))))
  rw [←cmp_ok h4 h5]
  exact h (small_ok a1) (small_ok a2)) hF
theorem lfSame_ok (hT:TabOk E tab) (hI:InfOk E inf) (hF:Fun P f) (h: ∀ {j k:Nat} {x y:Rat},Ctr P A f [nm j x,nm k y] (.one (.v (.bool (decide (x=y)))))):LfOk P A E f (lfSame tab inf):=
 leaf2 (fun x j y k st C h2=>by
  simp only [Bool.and_eq_true] at h2
  obtain ⟨⟨a1,a2⟩,h2⟩:=h2
  obtain ⟨l,hl,hh⟩:=askZ_ok hT hI h2
  refine ⟨_,hl,fun hs=>?_⟩
  obtain ⟨q,hq,h1,h2,h3,h4⟩:=hh hs
  refine ⟨_,outs_mem hq,h1,h2,h3,_,rfl,?_⟩
  show Ctr P A f _ (.one (.v (.bool q.1)))
  have e:q.1=decide (x.ev E.V=y.ev E.V):=by
   rw [h4,ev_zero,nsub_ev]
   by_cases hxy:x.ev E.V=y.ev E.V
   ·rw [decide_eq_true hxy,decide_eq_true (by grind)]
   ·rw [decide_eq_false hxy,decide_eq_false (by grind)]
  rw [e]
  exact h) hF
theorem not_all {α:Type} {g:α→Bool} {l:List α} {q:α} (h:l.all g=true) (hq:q∈l):g q=true:=List.all_eq_true.1 h q hq
theorem selL_ok {t j:Nat} {x y:Num} {st:S} {l:List (Nat×S)} {C:List (CO×S)→Bool} {g:Rat} (h:selL t x y j st l C=true)
  (hh:Sat E st.G→ ∃q∈l,Sat E q.2.G∧q.2.sl=st.sl∧q.2.mem=st.mem∧(q.1≠3-t→y.ev E.V=g)∧(q.1≠t→x.ev E.V=g)∧(selN t q.1 x y).ev E.V=g) {al:List AV} (hc: ∀z:Num,z.ev E.V=g→Ctr P A f al (aK E (numA z j))):
  ∃l,C l=true∧(Sat E st.G→ ∃q∈l,Sat E q.2.G∧q.2.sl=st.sl∧q.2.mem=st.mem∧ ∃r,q.1=one r∧Ctr P A f al (aK E r)):=by
 unfold selL at h
 split at h
 ·rename_i hb
  refine ⟨_,h,fun hs=>?_⟩
  obtain ⟨q,hq,h1,h2,h3,h4,h5,h6⟩:=hh hs
  have:=not_all hb hq
  exact ⟨_,List.mem_singleton.2 rfl,hs,rfl,rfl,_,rfl,hc _ (h4 fun e=>by rw [e] at this;simp at this)⟩
 ·split at h
  ·rename_i hb
   refine ⟨_,h,fun hs=>?_⟩
   obtain ⟨q,hq,h1,h2,h3,h4,h5,h6⟩:=hh hs
   have:=not_all hb hq
   exact ⟨_,List.mem_singleton.2 rfl,hs,rfl,rfl,_,rfl,hc _ (h5 fun e=>by rw [e] at this;simp at this)⟩
  ·refine ⟨_,h,fun hs=>?_⟩
   obtain ⟨q,hq,h1,h2,h3,h4,h5,h6⟩:=hh hs
   exact ⟨_,outs_mem hq,h1,h2,h3,_,rfl,hc _ h6⟩
theorem lfMin_ok (hT:TabOk E tab) (hI:InfOk E inf) (hF:Fun P f) (h: ∀ {j k:Nat} {x y:Rat},j≤100000000→k≤100000000→Ctr P A f [nm j x,nm k y] (nm (j+k+1) (mn x y))):LfOk P A E f (lfMin tab inf):=
 leaf2 (fun x j y k st C h2=>by
  simp only [Bool.and_eq_true] at h2
  obtain ⟨⟨a1,a2⟩,h2⟩:=h2
  obtain ⟨l,hl,hh⟩:=askS_ok hT hI h2
  rw [natK_eq] at hl
  refine selL_ok hl (g:=mn (x.ev E.V) (y.ev E.V)) (fun hs=>?_) (fun z hz=>by rw [numA_ok,hz];exact h (small_ok a1) (small_ok a2))
  obtain ⟨q,hq,h1,h2,h3,h4,h5⟩:=hh hs
  have hc:=cmp_ok h4 h5
  refine ⟨q,hq,h1,h2,h3,fun hn=>?_,fun hn=>?_,?_⟩
  ·unfold mn
   rcases h4 with h4 | h4 | h4
   ·rw [h4] at hc
    have:=ord_zero.1 hc
    rw [this];simp
   ·rw [hc,h4];rfl
   ·rw [hc,h4];exact absurd h4 hn
  ·unfold mn
   rcases h4 with h4 | h4 | h4
   ·rw [hc,h4];rfl
   ·rw [hc,h4];exact absurd h4 hn
   ·rw [hc,h4];rfl
  ·unfold mn
   rw [hc]
   rcases h4 with h4 | h4 | h4<;>rw [h4]<;>rfl) hF
theorem lfMax_ok (hT:TabOk E tab) (hI:InfOk E inf) (hF:Fun P f) (h: ∀ {j k:Nat} {x y:Rat},j≤100000000→k≤100000000→Ctr P A f [nm j x,nm k y] (nm (j+k+1) (mx x y))):LfOk P A E f (lfMax tab inf):=
 leaf2 (fun x j y k st C h2=>by
  simp only [Bool.and_eq_true] at h2
  obtain ⟨⟨a1,a2⟩,h2⟩:=h2
  obtain ⟨l,hl,hh⟩:=askS_ok hT hI h2
  rw [natK_eq] at hl
  refine selL_ok hl (g:=mx (x.ev E.V) (y.ev E.V)) (fun hs=>?_) (fun z hz=>by rw [numA_ok,hz];exact h (small_ok a1) (small_ok a2))
  obtain ⟨q,hq,h1,h2,h3,h4,h5⟩:=hh hs
  have hc:=cmp_ok h4 h5
  refine ⟨q,hq,h1,h2,h3,fun hn=>?_,fun hn=>?_,?_⟩
  ·unfold mx
   rcases h4 with h4 | h4 | h4
   ·rw [h4] at hc
    have:=ord_zero.1 hc
    rw [this];simp
   ·rw [hc,h4];exact absurd h4 hn
   ·rw [hc,h4];rfl
  ·unfold mx
   rcases h4 with h4 | h4 | h4
   ·rw [hc,h4];rfl
   ·rw [hc,h4];rfl
   ·rw [hc,h4];exact absurd h4 hn
  ·unfold mx
   rw [hc]
   rcases h4 with h4 | h4 | h4<;>rw [h4]<;>rfl) hF
theorem tabAt_ok: ∀ {tab:Tab} {p:Poly} {a:Nat},tabAt tab p=some a→(a,p)∈tab
 | [],_,_,h=>by cases h
 | (b,D)::r,p,a,h=>by
   unfold tabAt at h
   split at h
   ·rename_i hb
    cases h
    rw [peq_ok hb]
    exact List.mem_cons_self
   ·exact List.mem_cons_of_mem _ (tabAt_ok h)
theorem ev_mono (V:Nat→Rat) (a:Nat) (c:Int) (k:Nat):Num.ev V ⟨[([a],c)],k⟩=(c:Rat)*V a/((k+1:Nat):Rat):=by
 show ((c:Rat)*(V a*1)+0)/((k+1:Nat):Rat)=_
 have:=succ_ne k
 grind
theorem ev_const (V:Nat→Rat) (c:Int) (k:Nat):Num.ev V ⟨[([],c)],k⟩=(c:Rat)/((k+1:Nat):Rat):=by
 show ((c:Rat)*1+0)/((k+1:Nat):Rat)=_
 have:=succ_ne k
 grind
theorem invN_ok {x:Num} {C:Num→Bool} (h:invN tab x C=true): ∃i,C i=true∧(TabOk E tab→x.ev E.V≠0→i.ev E.V*x.ev E.V=1):=by
 unfold invN at h
 rw [polyK_eq] at h
 have hx:x.ev E.V=evP E.V x.p/((x.d+1:Nat):Rat):=rfl
 have hd:=succ_ne x.d
 split at h
 ·rename_i n hp
  split at h
  ·cases h
  ·rename_i k
   refine ⟨_,h,fun _ _=>?_⟩
   rw [ev_const,hx,hp,evP_const,ofNat_cast,ofNat_cast]
   have:=succ_ne k
   grind
 ·rename_i n hp
  refine ⟨_,h,fun _ _=>?_⟩
  rw [ev_const,hx,hp,evP_const,int_neg_cast,ofNat_cast]
  have e:((Int.negSucc n:Int):Rat)= -((n+1:Nat):Rat):=by
   rw [Int.negSucc_eq]
   have:((n:Int)+1)=((n+1:Nat):Int):=rfl
   rw [this,Rat.intCast_neg];rfl
  have:=succ_ne n
  rw [e]
  grind
 ·obtain ⟨ng,q,h,-,-,-⟩:=prim_ok h
  split at h
  ·rename_i a ha
   rw [natK_eq] at h
   split at h
   ·rename_i he
    have he:=peq_ok he
    split at h
    ·cases h
    ·rename_i k hg
     refine ⟨_,h,fun hT h0=>?_⟩
     have hev:=congrArg (evP E.V) he
     rw [evP_pscale,hg] at hev
     have hq:evP E.V q≠0:=fun hq=>by
      rw [hq,Rat.mul_zero] at hev
      rw [hx,←hev] at h0
      exact h0 (by grind)
     have hinv:=hT _ (tabAt_ok ha) hq
     have hinv:E.V a*evP E.V q=1:=hinv
     have hk:=succ_ne k
     rw [ev_mono,hx,←hev]
     cases ng with
     | true=>
       show ((Int.neg (.ofNat (x.d+1)):Int):Rat)*E.V a/_*(((Int.neg (.ofNat (k+1)):Int):Rat)*evP E.V q/_)=1
       rw [int_neg_cast,int_neg_cast,ofNat_cast,ofNat_cast]
       grind
     | false=>
       show ((Int.ofNat (x.d+1):Int):Rat)*E.V a/_*(((Int.ofNat (k+1):Int):Rat)*evP E.V q/_)=1
       rw [ofNat_cast,ofNat_cast]
       grind
   ·cases h
  ·cases h
theorem inv_div {x y i:Rat} (h:y≠0) (hi:i*y=1):x*i=x/y:=by grind
theorem lfQuo_ok (hT:TabOk E tab) (hI:InfOk E inf) (hF:Fun P f) (h: ∀ {j k:Nat} {x y:Rat},j≤100000000→k≤100000000→y≠0→Ctr P A f [nm j x,nm k y] (.tup [nm (j+k+2) (x/y),.one (.v (.int .i64 0))]))
  (h0: ∀ {j k:Nat} {x:Rat},Ctr P A f [nm j x,nm k 0] (.tup [.agg [.v (.bool false),.v (.slice none 0 0),.v (.slice none 0 0)],.one (.v (.int .i64 3))])):LfOk P A E f (lfQuo tab inf):=
 leaf2 (fun x j y k st C h2=>by
  simp only [Bool.and_eq_true] at h2
  obtain ⟨⟨a1,a2⟩,h2⟩:=h2
  obtain ⟨l,hl,hh⟩:=askZ_ok hT hI h2
  have hg:Snd E (fun (z:Bool) st (C:List (CO×S)→Bool)=>match z with
   | true=>C [(one (.tup [.agg [.b false,.nilS,.nilS],.one (.i .i64 3)]),st)]
   | false=>invN tab y fun i=>numK (nmul x i) fun z=>natK (j+k+2) fun j=>C [(one (.tup [numA z j,.one (.i .i64 0)]),st)]) fun z st co st'=>st'=st∧(z=decide (evP E.V y.p=0)→ ∃r,co=one r∧Ctr P A f [nm j (x.ev E.V),nm k (y.ev E.V)] (aK E r)):=fun z st C h9=>by
   cases z with
   | true=>
     refine ⟨_,h9,fun hs=>⟨_,List.mem_singleton.2 rfl,hs,rfl,fun hz=>⟨_,rfl,?_⟩⟩⟩
     have e:y.ev E.V=0:=by
      rw [ev_zero] at hz
      exact of_decide_eq_true hz.symm
     rw [e]
     exact h0
   | false=>
     obtain ⟨i,hi,hinv⟩:=invN_ok (E:=E) h9
     rw [numK_eq,natK_eq] at hi
     refine ⟨_,hi,fun hs=>⟨_,List.mem_singleton.2 rfl,hs,rfl,fun hz=>⟨_,rfl,?_⟩⟩⟩
     have e:y.ev E.V≠0:=by
      rw [ev_zero] at hz
      exact of_decide_eq_false hz.symm
     show Ctr P A f _ (.tup [nm (j+k+2) ((nmul x i).ev E.V),.one (.v (.int .i64 0))])
     rw [nmul_ev,inv_div e (hinv hT e)]
     exact h (small_ok a1) (small_ok a2) e
  obtain ⟨l2,hl2,hh2⟩:=mapK_snd hg l _ hl
  refine ⟨_,hl2,fun hs=>?_⟩
  obtain ⟨q,hq,h1,h2,h3,h4⟩:=hh hs
  obtain ⟨r,hr,h5,h6,h7⟩:=hh2 q hq h1
  exact ⟨r,hr,h5,by rw [h6,h2],by rw [h6,h3],h7 h4⟩) hF
theorem lfOver_ok (hT:TabOk E tab) (hI:InfOk E inf) (hF:Fun P f) (h: ∀ {j k:Nat} {x y:Rat},j≤100000000→k≤100000000→y≠0→Ctr P A f [nm j x,nm k y] (nm (j+k+2) (x/y))):LfOk P A E f (lfOver tab inf):=
 leaf2 (fun x j y k st C h2=>by
  simp only [Bool.and_eq_true] at h2
  obtain ⟨⟨a1,a2⟩,h2⟩:=h2
  obtain ⟨l,hl,hh⟩:=askZ_ok hT hI h2
  have hg:Snd E (fun (z:Bool) st (C:List (CO×S)→Bool)=>match z with
   | true=>false
   | false=>invN tab y fun i=>numK (nmul x i) fun z=>natK (j+k+2) fun j=>C [(one (numA z j),st)]) fun z st co st'=>st'=st∧(z=decide (evP E.V y.p=0)→ ∃r,co=one r∧Ctr P A f [nm j (x.ev E.V),nm k (y.ev E.V)] (aK E r)):=fun z st C h2=>by
   cases z with
   | true=>cases h2
   | false=>
     obtain ⟨i,hi,hinv⟩:=invN_ok (E:=E) h2
     rw [numK_eq,natK_eq] at hi
     refine ⟨_,hi,fun hs=>⟨_,List.mem_singleton.2 rfl,hs,rfl,fun hz=>⟨_,rfl,?_⟩⟩⟩
     have e:y.ev E.V≠0:=by
      rw [ev_zero] at hz
      exact of_decide_eq_false hz.symm
     rw [numA_ok,nmul_ev,inv_div e (hinv hT e)]
     exact h (small_ok a1) (small_ok a2) e
  obtain ⟨l2,hl2,hh2⟩:=mapK_snd hg l _ hl
  refine ⟨_,hl2,fun hs=>?_⟩
  obtain ⟨q,hq,h1,h2,h3,h4⟩:=hh hs
  obtain ⟨r,hr,h5,h6,h7⟩:=hh2 q hq h1
  exact ⟨r,hr,h5,by rw [h6,h2],by rw [h6,h3],h7 h4⟩) hF
end
def posL (l:List Int) (h:Nat):Nat:=if hh:h=0 then 0 else
 have:h/256<h:=Nat.div_lt_self (Nat.pos_of_ne_zero hh) (by decide)
 if h % 256=1 then (numb l (posL l (h/256))).2 else (nxt l (posL l (h/256)) 1).2
termination_by h
theorem posL_zero (l:List Int):posL l 0=0:=by rw [posL];rfl
theorem posL_num (l:List Int) (h:Nat):posL l (h*256+1)=(numb l (posL l h)).2:=by
 rw [posL,dif_neg (by omega),if_pos (by omega),show (h*256+1)/256=h by omega]
theorem posL_bd (l:List Int) (h:Nat):posL l h≤l.length:=by
 induction h using Nat.strongRecOn with
 | _ h ih=>
   rw [posL]
   split
   ·exact Nat.zero_le _
   ·have:=ih (h/256) (Nat.div_lt_self (by omega) (by decide))
    simp only
    split
    ·exact numb_bd l _ this
    ·exact (nxt_bd l _ (m:=1) (by decide)).2.2 this
structure DiceEnv (E:Env) (n:Nat):Prop where
 bd: ∀a,a<n→(∀x∈E.L a,-9223372036854775808≤x∧x<9223372036854775808)∧(E.L a).length≤500
 pos: ∀a h,E.pos a h=posL (E.L a) h
 num: ∀a h,a<n→E.V (8*h+a)=(numb (E.L a) (posL (E.L a) h)).1
 slo: ∀a h,a<n→E.V (256*h+32*a+21)=(spanD (E.L a) (posL (E.L a) h)).1
 shi: ∀a h,a<n→E.V (256*h+32*a+29)=(spanD (E.L a) (posL (E.L a) h)).2.1
section
variable {E:Env} {n:Nat}
theorem lfRoll_ok (hD:DiceEnv E n) (hF:Fun Tryz.prog 11):LfOk Tryz.prog Amb E 11 lfRoll:=fun args st C hC=>by
 replace hC:(match (generalizing:=false) args with
  | [.one (.ints a)]=>C [(⟨.junk,[],[],some [.ints a,.cnt a 0]⟩,st)]
  | _=>false)=true:=hC
 split at hC
 ·rename_i a
  refine ⟨_,hC,fun hs=>⟨_,List.mem_singleton.2 rfl,hs,rfl,rfl,hF,fun h=>(by cases h),fun cs h=>?_,fun p hp=>(by cases hp),fun p hp=>(by cases hp)⟩⟩
  cases h
  show CtrN Tryz.prog Amb _ [.one (.ints (E.L a))] [.ints (E.L a),.v (.int .i64 (E.pos a 0:Nat))]
  rw [hD.pos,posL_zero]
  exact d_roll (E.L a)
 ·cases hC
def lfNumberN (n:Nat):Leaf:=fun args st C=>match args with
 | [.one (.ptr k 0)]=>match memG st.mem k with
   | some [.ints a,.cnt a' h]=>Nat.beq a a'&&Nat.blt a n&&natK (h*256+1) fun h'=>natK (8*h+a) fun v=>C [(⟨numA (nvar v) 2,[],[(k,[.ints a,.cnt a' h],[.ints a,.cnt a h'])],none⟩,st)]
   | _=>false
 | _=>false
theorem lfNumber_ok (hD:DiceEnv E n) (hF:Fun Tryz.prog 66):LfOk Tryz.prog Amb E 66 (lfNumberN n):=fun args st C hC=>by
 replace hC:(match (generalizing:=false) args with
  | [.one (.ptr k 0)]=>match memG st.mem k with
    | some [.ints a,.cnt a' h]=>Nat.beq a a'&&Nat.blt a n&&natK (h*256+1) fun h'=>natK (8*h+a) fun v=>C [(⟨numA (nvar v) 2,[],[(k,[.ints a,.cnt a' h],[.ints a,.cnt a h'])],none⟩,st)]
    | _=>false
  | _=>false)=true:=hC
 split at hC
 ·rename_i k
  split at hC
  ·rename_i a a' h hm
   simp only [Bool.and_eq_true,natK_eq] at hC
   obtain ⟨⟨ha,hn⟩,hC⟩:=hC
   have ha:=Nat.eq_of_beq_eq_true ha
   subst ha
   have hn:a<n:=by simpa using hn
   refine ⟨_,hC,fun hs=>⟨_,List.mem_singleton.2 rfl,hs,rfl,rfl,hF,fun _=>?_,fun cs h=>(by cases h),fun p hp=>(by cases hp),fun p hp=>?_⟩⟩
   ·obtain ⟨hb,hl⟩:=hD.bd a hn
    have:=d_number (k:=k) hb (by omega:(E.L a).length≤1000000) (posL_bd (E.L a) h)
    show CtrM Tryz.prog Amb _ [.one (.ptr k 0)] [(k,[.ints (E.L a),.v (.int .i64 (E.pos a h:Nat))],[.ints (E.L a),.v (.int .i64 (E.pos a (h*256+1):Nat))])] (nm 2 ((nvar (8*h+a)).ev E.V))
    rw [hD.pos,hD.pos,nvar_ev,hD.num a h hn,posL_num]
    exact this
   ·obtain rfl:=List.mem_singleton.1 hp
    exact hm
  ·cases hC
 ·cases hC
def lfSpanN (n:Nat):Leaf:=fun args st C=>match args with
 | [.one (.ptr k 0)]=>match memG st.mem k with
   | some [.ints a,.cnt a' h]=>Nat.beq a a'&&Nat.blt a n&&natK ((h*256+1)*256+1) fun h'=>natK (256*h+32*a+21) fun v=>natK (256*h+32*a+29) fun u=>C [(⟨.agg [.q (nvar v) 5 0,.q (nvar v) 5 1,.q (nvar v) 5 2,.q (nvar u) 5 0,.q (nvar u) 5 1,.q (nvar u) 5 2],[],[(k,[.ints a,.cnt a' h],[.ints a,.cnt a h'])],none⟩,st)]
   | _=>false
 | _=>false
theorem lfSpan_ok (hD:DiceEnv E n) (hF:Fun Tryz.prog 12):LfOk Tryz.prog Amb E 12 (lfSpanN n):=fun args st C hC=>by
 replace hC:(match (generalizing:=false) args with
  | [.one (.ptr k 0)]=>match memG st.mem k with
    | some [.ints a,.cnt a' h]=>Nat.beq a a'&&Nat.blt a n&&natK ((h*256+1)*256+1) fun h'=>natK (256*h+32*a+21) fun v=>natK (256*h+32*a+29) fun u=>C [(⟨.agg [.q (nvar v) 5 0,.q (nvar v) 5 1,.q (nvar v) 5 2,.q (nvar u) 5 0,.q (nvar u) 5 1,.q (nvar u) 5 2],[],[(k,[.ints a,.cnt a' h],[.ints a,.cnt a h'])],none⟩,st)]
    | _=>false
  | _=>false)=true:=hC
 split at hC
 ·rename_i k
  split at hC
  ·rename_i a a' h hm
   simp only [Bool.and_eq_true,natK_eq] at hC
   obtain ⟨⟨ha,hn⟩,hC⟩:=hC
   have ha:=Nat.eq_of_beq_eq_true ha
   subst ha
   have hn:a<n:=by simpa using hn
   refine ⟨_,hC,fun hs=>⟨_,List.mem_singleton.2 rfl,hs,rfl,rfl,hF,fun _=>?_,fun cs h=>(by cases h),fun p hp=>(by cases hp),fun p hp=>?_⟩⟩
   ·obtain ⟨hb,hl⟩:=hD.bd a hn
    have:=d_span (k:=k) hb (by omega:(E.L a).length≤1000000) (posL_bd (E.L a) h)
    show CtrM Tryz.prog Amb _ [.one (.ptr k 0)] [(k,[.ints (E.L a),.v (.int .i64 (E.pos a h:Nat))],[.ints (E.L a),.v (.int .i64 (E.pos a ((h*256+1)*256+1):Nat))])] (sp 5 ((nvar (256*h+32*a+21)).ev E.V) 5 ((nvar (256*h+32*a+29)).ev E.V))
    rw [hD.pos,hD.pos,nvar_ev,nvar_ev,hD.slo a h hn,hD.shi a h hn,posL_num,posL_num]
    exact this
   ·obtain rfl:=List.mem_singleton.1 hp
    exact hm
  ·cases hC
 ·cases hC
end
end Go.Proofs.YteiibidmicgjoaaGreatDoor
