/-
  Several texts in one: Fa, Fb.
-/
import Derived.Test.YteiibidmicgjoaaGreatDoorBa
import Derived.Test.YteiibidmicgjoaaGreatDoorEw
namespace Go.Proofs.YteiibidmicgjoaaGreatDoor
set_option linter.unusedVariables false
set_option linter.unusedSimpArgs false
abbrev Mono:=List Nat
abbrev Poly:=List (Mono×Int)
def lexC:List Nat→List Nat→Nat
 | [],[]=>1
 | [],_::_=>0
 | _::_,[]=>2
 | a::x,b::y=>match Nat.beq a b with
   | true=>lexC x y
   | false=>match Nat.blt a b with | true=>0 | false=>2
def mcmp (x y:Mono):Nat:=match Nat.beq x.length y.length with
 | true=>lexC x y
 | false=>match Nat.blt x.length y.length with | true=>0 | false=>2
theorem lexC_eq: ∀ {x y:List Nat},lexC x y=1→x=y
 | [],[],_=>rfl
 | [],_::_,h=>by cases h
 | _::_,[],h=>by cases h
 | a::x,b::y,h=>by
   unfold lexC at h
   split at h
   ·rename_i hb
    rw [Nat.eq_of_beq_eq_true hb,lexC_eq h]
   ·split at h<;>cases h
theorem mcmp_eq {x y:Mono} (h:mcmp x y=1):x=y:=by
 unfold mcmp at h
 split at h
 ·exact lexC_eq h
 ·split at h<;>cases h
def mins (a:Nat):Mono→Mono
 | []=> [a]
 | b::y=>match Nat.ble a b with | true=>a::b::y | false=>b::mins a y
def mmul:Mono→Mono→Mono
 | [],y=>y
 | a::x,y=>mins a (mmul x y)
def isZ:Int→Bool
 | .ofNat n=>Nat.beq n 0
 | .negSucc _=>false
theorem isZ_ok {c:Int} (h:isZ c=true):c=0:=by
 cases c with
 | ofNat n=>have:=Nat.eq_of_beq_eq_true h;subst this;rfl
 | negSucc n=>cases h
def ieq:Int→Int→Bool
 | .ofNat n,.ofNat m=>Nat.beq n m
 | .negSucc n,.negSucc m=>Nat.beq n m
 | _,_=>false
theorem ieq_ok: ∀ {a b:Int},ieq a b=true→a=b
 | .ofNat n,.ofNat m,h=>by rw [Nat.eq_of_beq_eq_true (show Nat.beq n m=true from h)]
 | .negSucc n,.negSucc m,h=>by rw [Nat.eq_of_beq_eq_true (show Nat.beq n m=true from h)]
 | .ofNat n,.negSucc m,h=>by cases h
 | .negSucc n,.ofNat m,h=>by cases h
def pins (m:Mono) (c:Int) (f:Poly→Poly):Poly→Poly
 | []=>(m,c)::f []
 | (m',c')::q=>match mcmp m m' with
   | 0=>(m,c)::f ((m',c')::q)
   | 1=>match isZ (c+c') with | true=>f q | false=>(m,c+c')::f q
   | _=>(m',c')::pins m c f q
def padd:Poly→Poly→Poly
 | [],q=>q
 | (m,c)::p,q=>pins m c (padd p) q
def pscale (k:Int):Poly→Poly
 | []=> []
 | (m,c)::p=>(m,k*c)::pscale k p
def pmulT (m:Mono) (k:Int):Poly→Poly
 | []=> []
 | (m',c)::p=>(mmul m m',k*c)::pmulT m k p
def pmul:Poly→Poly→Poly
 | [],_=> []
 | (m,c)::p,q=>padd (pmulT m c q) (pmul p q)
def meq:Mono→Mono→Bool
 | [],[]=>true
 | a::x,b::y=>match Nat.beq a b with | true=>meq x y | false=>false
 | _,_=>false
theorem meq_ok: ∀ {x y:Mono},meq x y=true→x=y
 | [],[],_=>rfl
 | [],_::_,h=>by cases h
 | _::_,[],h=>by cases h
 | a::x,b::y,h=>by
   unfold meq at h
   split at h
   ·rename_i hb
    rw [Nat.eq_of_beq_eq_true hb,meq_ok h]
   ·cases h
def peq:Poly→Poly→Bool
 | [],[]=>true
 | (m,c)::p,(m',c')::q=>match ieq c c' with | true=>(match meq m m' with | true=>peq p q | false=>false) | false=>false
 | _,_=>false
theorem peq_ok: ∀ {p q:Poly},peq p q=true→p=q
 | [],[],_=>rfl
 | [],_::_,h=>by cases h
 | _::_,[],h=>by cases h
 | (m,c)::p,(m',c')::q,h=>by
   unfold peq at h
   split at h
   ·rename_i h1
    split at h
    ·rename_i h2
     rw [ieq_ok h1,meq_ok h2,peq_ok h]
    ·cases h
   ·cases h
def evM (V:Nat→Rat):Mono→Rat
 | []=>1
 | a::m=>V a*evM V m
def evP (V:Nat→Rat):Poly→Rat
 | []=>0
 | (m,c)::p=>(c:Rat)*evM V m+evP V p
variable {V:Nat→Rat}
theorem evM_mins (a:Nat): ∀y:Mono,evM V (mins a y)=V a*evM V y
 | []=>rfl
 | b::y=>by
   unfold mins
   split
   ·rfl
   ·show V b*evM V (mins a y)=V a*(V b*evM V y)
    rw [evM_mins a y];grind
theorem evM_mmul: ∀x y:Mono,evM V (mmul x y)=evM V x*evM V y
 | [],y=>by show evM V y=1*evM V y;grind
 | a::x,y=>by
   show evM V (mins a (mmul x y))=V a*evM V x*evM V y
   rw [evM_mins,evM_mmul x y];grind
theorem evP_pins (m:Mono) (c:Int) (f:Poly→Poly) (r:Rat) (hf: ∀q,evP V (f q)=r+evP V q): ∀q:Poly,evP V (pins m c f q)=(c:Rat)*evM V m+r+evP V q
 | []=>by
   show (c:Rat)*evM V m+evP V (f [])=_
   rw [hf];grind
 | (m',c')::q=>by
   unfold pins
   split
   ·show (c:Rat)*evM V m+evP V (f ((m',c')::q))=_
    rw [hf];grind
   ·rename_i h
    have hm:=mcmp_eq h
    subst hm
    have e:evP V ((m,c')::q)=(c':Rat)*evM V m+evP V q:=rfl
    have hc:((c+c':Int):Rat)=(c:Rat)+(c':Rat):=Rat.intCast_add c c'
    split
    ·rename_i hz
     have h0:((c+c':Int):Rat)=0:=by rw [isZ_ok hz];rfl
     rw [hf,e]
     rw [hc] at h0
     have:(c:Rat)*evM V m+(c':Rat)*evM V m=0:=by rw [←Rat.add_mul,h0,Rat.zero_mul]
     grind
    ·show ((c+c':Int):Rat)*evM V m+evP V (f q)=_
     rw [hf,e,hc];grind
   ·show (c':Rat)*evM V m'+evP V (pins m c f q)=(c:Rat)*evM V m+r+((c':Rat)*evM V m'+evP V q)
    rw [evP_pins m c f r hf q];grind
theorem evP_padd: ∀p q:Poly,evP V (padd p q)=evP V p+evP V q
 | [],q=>by show evP V q=0+evP V q;grind
 | (m,c)::p,q=>by
   show evP V (pins m c (padd p) q)=(c:Rat)*evM V m+evP V p+evP V q
   rw [evP_pins m c (padd p) (evP V p) (evP_padd p)]
theorem evP_pscale (k:Int): ∀p:Poly,evP V (pscale k p)=(k:Rat)*evP V p
 | []=>by show (0:Rat)=(k:Rat)*0;grind
 | (m,c)::p=>by
   show ((k*c:Int):Rat)*evM V m+evP V (pscale k p)=(k:Rat)*((c:Rat)*evM V m+evP V p)
   rw [evP_pscale k p,Rat.intCast_mul];grind
theorem evP_pmulT (m:Mono) (k:Int): ∀p:Poly,evP V (pmulT m k p)=(k:Rat)*evM V m*evP V p
 | []=>by show (0:Rat)=(k:Rat)*evM V m*0;grind
 | (m',c)::p=>by
   show ((k*c:Int):Rat)*evM V (mmul m m')+evP V (pmulT m k p)=(k:Rat)*evM V m*((c:Rat)*evM V m'+evP V p)
   rw [evP_pmulT m k p,Rat.intCast_mul,evM_mmul];grind
theorem evP_pmul: ∀p q:Poly,evP V (pmul p q)=evP V p*evP V q
 | [],q=>by show (0:Rat)=0*evP V q;grind
 | (m,c)::p,q=>by
   show evP V (padd (pmulT m c q) (pmul p q))=((c:Rat)*evM V m+evP V p)*evP V q
   rw [evP_padd,evP_pmulT,evP_pmul p q];grind
structure Num where
 p:Poly
 d:Nat
def Num.ev (V:Nat→Rat) (n:Num):Rat:=evP V n.p/((n.d+1:Nat):Rat)
theorem succ_ne (d:Nat):((d+1:Nat):Rat)≠0:=by
 intro h
 have h2:((d+1:Nat):Rat)=((0:Nat):Rat):=h
 have:=Rat.natCast_inj.1 h2
 omega
def nadd (a b:Num):Num:=match Nat.beq a.d b.d with
 | true=>⟨padd a.p b.p,a.d⟩
 | false=>⟨padd (pscale (.ofNat (b.d+1)) a.p) (pscale (.ofNat (a.d+1)) b.p),a.d*b.d+a.d+b.d⟩
def nneg (a:Num):Num:=⟨pscale (-1) a.p,a.d⟩
def nsub (a b:Num):Num:=nadd a (nneg b)
def nmul (a b:Num):Num:=⟨pmul a.p b.p,a.d*b.d+a.d+b.d⟩
def nint (n:Int):Num:=match isZ n with | true=>⟨[],0⟩ | false=>⟨[([],n)],0⟩
def nvar (a:Nat):Num:=⟨[([a],1)],0⟩
theorem d_mul (a b:Nat):((a*b+a+b+1:Nat):Rat)=((a+1:Nat):Rat)*((b+1:Nat):Rat):=by
 rw [←Rat.natCast_mul];congr 1;grind
theorem nneg_ev (a:Num):(nneg a).ev V= -(a.ev V):=by
 unfold nneg Num.ev
 simp only [evP_pscale]
 have:=succ_ne a.d
 have e:((-1:Int):Rat)= -1:=rfl
 rw [e];grind
theorem ofNat_cast (n:Nat):((Int.ofNat n:Int):Rat)=((n:Nat):Rat):=rfl
theorem nadd_ev (a b:Num):(nadd a b).ev V=a.ev V+b.ev V:=by
 unfold nadd
 have h1:=succ_ne a.d
 have h2:=succ_ne b.d
 split
 ·rename_i h
  have h:=Nat.eq_of_beq_eq_true h
  unfold Num.ev
  simp only [evP_padd,←h]
  grind
 ·unfold Num.ev
  simp only [evP_padd,evP_pscale,d_mul,ofNat_cast]
  grind
theorem nsub_ev (a b:Num):(nsub a b).ev V=a.ev V-b.ev V:=by
 unfold nsub
 rw [nadd_ev,nneg_ev];grind
theorem nmul_ev (a b:Num):(nmul a b).ev V=a.ev V*b.ev V:=by
 unfold nmul Num.ev
 have h1:=succ_ne a.d
 have h2:=succ_ne b.d
 simp only [evP_pmul,d_mul]
 grind
theorem nint_ev (n:Int):(nint n).ev V=(n:Rat):=by
 unfold nint
 split
 ·rename_i h
  rw [isZ_ok h]
  show (0:Rat)/((0+1:Nat):Rat)=((0:Int):Rat)
  have h1:((0+1:Nat):Rat)=1:=rfl
  have h2:((0:Int):Rat)=0:=rfl
  rw [h1,h2];grind
 ·unfold Num.ev evP evM evP
  have:((0+1:Nat):Rat)=1:=rfl
  simp only [this];grind
theorem nvar_ev (a:Nat):(nvar a).ev V=V a:=by
 unfold nvar Num.ev evP evM evM evP
 have:((0+1:Nat):Rat)=1:=rfl
 simp only [this]
 have h1:((1:Int):Rat)=1:=rfl
 rw [h1];grind
def neq (a b:Num):Bool:=match Nat.beq a.d b.d with | true=>peq a.p b.p | false=>false
theorem neq_ok {a b:Num} (h:neq a b=true):a=b:=by
 obtain ⟨p,d⟩:=a
 obtain ⟨q,e⟩:=b
 unfold neq at h
 split at h
 ·rename_i h1
  have h2:p=q:=peq_ok h
  have h3:d=e:=Nat.eq_of_beq_eq_true h1
  rw [h2,h3]
 ·cases h
def gcdP:Poly→Nat
 | []=>0
 | (_,c)::p=>Nat.gcd c.natAbs (gcdP p)
def idiv (c:Int) (g:Nat):Int:=match c with
 | .ofNat n=> .ofNat (n/g)
 | .negSucc n=>Int.neg (.ofNat ((n+1)/g))
def pdiv (ng:Bool) (g:Nat):Poly→Poly
 | []=> []
 | (m,c)::p=>(m,match ng with | true=>Int.neg (idiv c g) | false=>idiv c g)::pdiv ng g p
def negHead:Poly→Bool
 | (_,.negSucc _)::_=>true
 | _=>false
def erase1 (a:Nat):Mono→Option Mono
 | []=>none
 | b::m=>match Nat.beq a b with | true=>some m | false=>(match erase1 a m with | some m=>some (b::m) | none=>none)
def mgcd:Mono→Mono→Mono
 | [],_=> []
 | a::x,y=>match erase1 a y with | some y=>a::mgcd x y | none=>mgcd x y
def comM:Poly→Mono
 | []=> []
 | [(m,_)]=>m
 | (m,_)::p=>mgcd m (comM p)
def mdiv:Mono→Mono→Mono
 | [],y=>y
 | a::x,y=>match erase1 a y with | some y=>mdiv x y | none=>mdiv x y
def divM (m:Mono):Poly→Poly
 | []=> []
 | (x,c)::p=>(mdiv m x,c)::divM m p
def natK {α:Type} (n:Nat) (K:Nat→α):α:=match n with | 0=>K 0 | k+1=>K (Nat.succ k)
theorem natK_eq {α:Type} (n:Nat) (K:Nat→α):natK n K=K n:=by cases n<;>rfl
def intK {α:Type} (n:Int) (K:Int→α):α:=match n with | .ofNat k=>natK k fun k=>K (.ofNat k) | .negSucc k=>natK k fun k=>K (.negSucc k)
theorem intK_eq {α:Type} (n:Int) (K:Int→α):intK n K=K n:=by
 cases n with
 | ofNat k=>exact natK_eq k fun k=>K (.ofNat k)
 | negSucc k=>exact natK_eq k fun k=>K (.negSucc k)
def monoK {α:Type} :Mono→(Mono→α)→α
 | [],K=>K []
 | a::m,K=>natK a fun a=>monoK m fun m=>K (a::m)
theorem monoK_eq {α:Type} : ∀(m:Mono) (K:Mono→α),monoK m K=K m
 | [],_=>rfl
 | a::m,K=>by
   show natK a (fun a=>monoK m fun m=>K (a::m))=_
   rw [natK_eq,monoK_eq]
def polyK {α:Type} :Poly→(Poly→α)→α
 | [],K=>K []
 | (m,c)::p,K=>intK c fun c=>monoK m fun m=>polyK p fun p=>K ((m,c)::p)
theorem polyK_eq {α:Type} : ∀(p:Poly) (K:Poly→α),polyK p K=K p
 | [],_=>rfl
 | (m,c)::p,K=>by
   show intK c (fun c=>monoK m fun m=>polyK p fun p=>K ((m,c)::p))=_
   rw [intK_eq,monoK_eq,polyK_eq]
def numK {α:Type} (n:Num) (K:Num→α):α:=polyK n.p fun p=>natK n.d fun d=>K ⟨p,d⟩
theorem numK_eq {α:Type} (n:Num) (K:Num→α):numK n K=K n:=by
 unfold numK
 rw [polyK_eq,natK_eq]
end Go.Proofs.YteiibidmicgjoaaGreatDoor
namespace Go.Proofs.YteiibidmicgjoaaGreatDoor
open Go.RowKit
set_option linter.unusedVariables false
set_option linter.unusedSimpArgs false
inductive K where
 | q (n:Num) (j i:Nat)
 | b (x:Bool)
 | i (k:IntKind) (n:Int)
 | nilP | nilS | nilF | nilI | nilM | estr | und
 | ptr (k off:Nat)
 | fn (f:Nat) (caps:List (Nat×Nat))
 | ints (a:Nat)
 | cnt (a h:Nat)
 | sym (k:IntKind) (a:Nat)
 | str (l:List Nat)
inductive KA where
 | one (k:K)
 | agg (l:List K)
 | tup (l:List KA)
 | junk
inductive Fact where
 | sg (p:Poly) (s:Nat)
 | nx (a h m v:Nat)
inductive T where
 | nil
 | one (k:Nat) (v:KA)
 | node (l:T) (v:Option KA) (r:T)
 | ovr (k:Nat) (v:KA) (t:T)
def T.get:T→Nat→Option KA
 | .nil,_=>none
 | .one k0 v,k=>match Nat.beq k0 k with | true=>some v | false=>none
 | .node l v r,k=>match k with
   | 0=>v
   | k+1=>match Nat.beq (k % 2) 0 with | true=>l.get (k/2) | false=>r.get (k/2)
 | .ovr k0 v t,k=>match Nat.beq k0 k with | true=>some v | false=>t.get k
def T.expand (k0:Nat) (v0:KA):T:=match k0 with
 | 0=> .node .nil (some v0) .nil
 | k+1=>match Nat.beq (k % 2) 0 with | true=> .node (.one (k/2) v0) none .nil | false=> .node .nil none (.one (k/2) v0)
def T.set {α:Type} :Nat→T→Nat→KA→(T→α)→α
 | 0,t,k,v,C=>C (.ovr k v t)
 | _+1,.nil,k,v,C=>C (.one k v)
 | n+1,.one k0 v0,k,v,C=>match Nat.beq k0 k with
   | true=>C (.one k v)
   | false=>T.set n (T.expand k0 v0) k v C
 | n+1,.node l x r,k,v,C=>match k with
   | 0=>C (.node l (some v) r)
   | k+1=>match Nat.beq (k % 2) 0 with
     | true=>T.set n l (k/2) v fun l=>C (.node l x r)
     | false=>T.set n r (k/2) v fun r=>C (.node l x r)
 | _+1,.ovr k0 v0 t,k,v,C=>C (.ovr k v (.ovr k0 v0 t))
structure S where
 sl:T
 mem:List (Nat×List K)
 nx:Nat
 G:List Fact
def memG:List (Nat×List K)→Nat→Option (List K)
 | [],_=>none
 | p::r,k=>match Nat.beq p.1 k with | true=>some p.2 | false=>memG r k
def memS:List (Nat×List K)→Nat→List K→List (Nat×List K)
 | [],k,c=> [(k,c)]
 | p::r,k,c=>match Nat.beq p.1 k with | true=>(k,c)::r | false=>p::memS r k c
structure TI where
 agg:Bool
 size:Nat
 flds:List (Nat×Bool×Nat)
 arr:Option (Nat×Bool×Nat)
 int:Option IntKind
 bool:Bool
 zero:Option (List K)
 str:Bool
def kindN:IntKind→Nat | .i8=>0 | .i16=>1 | .i32=>2 | .i64=>3 | .u8=>4 | .u16=>5 | .u32=>6 | .u64=>7
def cellK:Value→Option K
 | .bool x=>some (.b x)
 | .int k n=>some (.i k n)
 | .pointer none=>some .nilP
 | .slice none 0 0=>some .nilS
 | .nilFunc=>some .nilF
 | .nilIface=>some .nilI
 | .map none=>some .nilM
 | .string s=>match Nat.beq s.size 0 with | true=>some .estr | false=>some (.str (s.data.toList.map UInt8.toNat))
 | _=>none
def cellsK:List Value→Option (List K)
 | []=>some []
 | v::r=>match cellK v with | some k=>(match cellsK r with | some l=>some (k::l) | none=>none) | none=>none
def constK:Value→Option KA
 | .agg cs=>match cellsK cs.toList with | some l=>some (.agg l) | none=>none
 | v=>match cellK v with | some k=>some (.one k) | none=>none
def evK (sl:T):Operand→Option KA
 | .tmp t=>match sl.get t with | some v=>some v | none=>some .junk
 | .const v=>constK v
 | .global _=>some .junk
 | .func f=>some (.one (.fn f []))
def evKs (sl:T):List Operand→Option (List KA)
 | []=>some []
 | x::r=>match evK sl x with | some k=>(match evKs sl r with | some l=>some (k::l) | none=>none) | none=>none
structure ES where
 out:KA
 rd:List (Nat×Nat×List K)
 wr:List (Nat×Nat×List K)
 al:Option (Nat×List K)
def acK:KA→List K
 | .one c=> [c]
 | .agg cs=>cs
 | _=> []
def isAggK:KA→Bool
 | .agg _=>true
 | _=>false
def mkK:Bool→List K→KA
 | true,cs=> .agg cs
 | false,c::_=> .one c
 | false,[]=> .junk
def nlK:K→Bool
 | .i .u32 _=>false
 | .sym .u32 _=>false
 | .und=>false
 | _=>true
def layK (cs:List K):Nat→List K→List K
 | _,[]=>cs
 | o,c::r=>layK (cs.set o c) (o+1) r
def ptrsK:List KA→Option (List (Nat×Nat))
 | []=>some []
 | .one (.ptr k o)::r=>match ptrsK r with | some l=>some ((k,o)::l) | none=>none
 | _=>none
def fillK (pl:Nat→Option (Nat×Nat)) (cs:List K):List (Nat×KA)→Option (List K)
 | []=>some cs
 | (i,a)::rest=>match pl i with
   | none=>none
   | some (off,size)=>match Nat.beq (acK a).length size&&Nat.ble (off+(acK a).length) cs.length&&(isAggK a || Nat.beq size 1) with
     | true=>fillK pl (layK cs off (acK a)) rest
     | false=>none
def partsK (sl:T):List (Nat×Operand)→Option (List (Nat×KA))
 | []=>some []
 | (i,x)::r=>match evK sl x with | some k=>(match partsK sl r with | some l=>some ((i,k)::l) | none=>none) | none=>none
def subK (cs:List K) (off n:Nat):List K:=(cs.drop off).take n
inductive TyT where
 | nil
 | node (k:Nat) (v:TI) (l r:TyT)
def tyAt:TyT→Nat→Option TI
 | .nil,_=>none
 | .node k v l r,t=>match Nat.beq k t with
   | true=>some v
   | false=>match Nat.ble t k with
     | true=>tyAt l t
     | false=>tyAt r t
def pureE (a:KA):Option ES:=some ⟨a,[],[],none⟩
def valK:Value→Option K
 | .int k n=>some (.i k n)
 | .bool x=>some (.b x)
 | _=>none
def idx (i:Int) (len:Nat):Option Nat:=match i with
 | .ofNat n=>match Nat.blt n len with | true=>some n | false=>none
 | .negSucc _=>none
def cond (c:Bool) (r:Option ES):Option ES:=match c with | true=>r | false=>none
def opPick (ty:TyT) (st:S) (c:Operand) (x:Operand) (y:Operand):Option ES:=match evK st.sl c with
    | some (.one (.b true))=>(match evK st.sl x with | some a=>pureE a | none=>none)
    | some (.one (.b false))=>(match evK st.sl y with | some a=>pureE a | none=>none)
    | _=>none
def opAlloc (ty:TyT) (st:S) (t:TypeId):Option ES:=match tyAt ty t with
    | some i=>(match i.zero with
      | some cs=>cond (!cs.isEmpty&&(memG st.mem st.nx).isNone&&cs.all nlK) (some ⟨.one (.ptr st.nx 0),[],[],some (st.nx,cs)⟩)
      | none=>none)
    | none=>none
def opBox (ty:TyT) (st:S) (x:Operand):Option ES:=match evK st.sl x with
    | some a=>cond ((isAggK a || Nat.beq (acK a).length 1)&&(acK a).all nlK&&!(acK a).isEmpty&&(memG st.mem st.nx).isNone) (some ⟨.one (.ptr st.nx 0),[],[],some (st.nx,acK a)⟩)
    | none=>none
def opBuild (ty:TyT) (st:S) (t:TypeId) (parts:Array (Nat×Operand)):Option ES:=match tyAt ty t with
    | some i=>(match i.zero with
      | some cs=>(match partsK st.sl parts.toList with
        | some ps=>cond ((ps.all fun p=>(acK p.2).all nlK)&&cs.all nlK) (match i.arr with
          | some (_,_,n)=>(match fillK (fun j=>some (j*n,n)) cs ps with | some l=>pureE (.agg l) | none=>none)
          | none=>cond (!i.flds.isEmpty) (match fillK (fun j=>match i.flds[j]? with | some f=>some (f.1,f.2.2) | none=>none) cs ps with | some l=>pureE (.agg l) | none=>none))
        | none=>none)
      | none=>none)
    | none=>none
def opLoad (ty:TyT) (st:S) (t:TypeId) (x:Operand):Option ES:=match tyAt ty t with
    | some i=>(match evK st.sl x with
      | some (.one (.ptr k off))=>(match memG st.mem k with
        | some cs=>cond (Nat.ble (off+i.size) cs.length&&Nat.blt 0 i.size&&(i.agg || Nat.beq i.size 1)) (some ⟨mkK i.agg (subK cs off i.size),[(k,off,subK cs off i.size)],[],none⟩)
        | none=>none)
      | _=>none)
    | none=>none
def opStore (ty:TyT) (st:S) (t:TypeId) (x:Operand) (y:Operand):Option ES:=match tyAt ty t with
    | some i=>(match evK st.sl x with
      | some (.one (.ptr k off))=>(match memG st.mem k with
        | some cs=>(match evK st.sl y with
          | some a=>cond (Nat.beq (acK a).length i.size&&(isAggK a || Nat.beq i.size 1)&&Nat.ble (off+i.size) cs.length&&Nat.blt 0 i.size&&(acK a).all nlK) (some ⟨.junk,[],[(k,off,acK a)],none⟩)
          | none=>none)
        | none=>none)
      | _=>none)
    | none=>none
def opNilCheck (ty:TyT) (st:S) (x:Operand):Option ES:=match evK st.sl x with
    | some (.one (.ptr k off))=>pureE (.one (.ptr k off))
    | some (.one (.fn f caps))=>pureE (.one (.fn f caps))
    | _=>none
def opBinOp (ty:TyT) (st:S) (op:BinOp) (t:TypeId) (x:Operand) (y:Operand):Option ES:=match evK st.sl x,evK st.sl y with
    | some (.one (.i k a)),some (.one (.i k' b))=>cond (Nat.beq (kindN k) (kindN k')) (match binR op k a b with
      | some v=>(match valK v with | some c=>pureE (.one c) | none=>none)
      | none=>none)
    | some (.one (.str a)),some (.one (.str b))=>(match op with
      | .eql=>(match tyAt ty t with | some i=>cond (i.str&&meq a b) (pureE (.one (.b true))) | none=>none)
      | _=>none)
    | some (.one (.b a)),some (.one (.b b))=>(match op with
      | .eql=>(match tyAt ty t with | some i=>cond i.bool (pureE (.one (.b (a==b)))) | none=>none)
      | .neq=>(match tyAt ty t with | some i=>cond i.bool (pureE (.one (.b (a !=b)))) | none=>none)
      | _=>none)
    | _,_=>none
def opUnOp (ty:TyT) (st:S) (op:UnOp) (x:Operand):Option ES:=match op,evK st.sl x with
    | .not,some (.one (.b a))=>pureE (.one (.b (!a)))
    | .neg,some (.one (.i k n))=>pureE (.one (.i k (k.wrap (0-n))))
    | _,_=>none
def opConvert (ty:TyT) (st:S) (t:TypeId) (u:TypeId) (x:Operand):Option ES:=match tyAt ty t,tyAt ty u,evK st.sl x with
    | some i,some j,some (.one (.i k n))=>(match i.int,j.int with
      | some k1,some k2=>cond (Nat.beq (kindN k) (kindN k1)) (pureE (.one (.i k2 (k2.wrap n))))
      | _,_=>none)
    | _,_,_=>none
def opMakeFunc (ty:TyT) (st:S) (f:FuncId) (first:Array Operand) (capt:Array Operand):Option ES:=match first.toList with
    | []=>(match evKs st.sl capt.toList with
      | some l=>(match ptrsK l with | some caps=>pureE (.one (.fn f caps)) | none=>none)
      | none=>none)
    | _=>none
def opFieldAddr (ty:TyT) (st:S) (t:TypeId) (x:Operand) (i:Nat):Option ES:=match tyAt ty t with
    | some ti=>(match ti.flds[i]?,evK st.sl x with
      | some f,some (.one (.ptr k off))=>cond (Nat.blt 0 f.2.2) (pureE (.one (.ptr k (off+f.1))))
      | _,_=>none)
    | none=>none
def opField (ty:TyT) (st:S) (t:TypeId) (x:Operand) (i:Nat):Option ES:=match tyAt ty t with
    | some ti=>(match ti.flds[i]?,evK st.sl x with
      | some f,some (.agg cs)=>cond (Nat.blt 0 f.2.2&&Nat.ble (f.1+f.2.2) cs.length&&(f.2.1 || Nat.beq f.2.2 1)) (pureE (mkK f.2.1 (subK cs f.1 f.2.2)))
      | _,_=>none)
    | none=>none
def opIndexAddr (ty:TyT) (st:S) (t:TypeId) (x:Operand) (y:Operand):Option ES:=match tyAt ty t with
    | some ti=>(match ti.arr,evK st.sl x,evK st.sl y with
      | some (len,_,n),some (.one (.ptr k off)),some (.one (.i _ i))=>(match idx i len with
        | some i=>pureE (.one (.ptr k (off+i*n)))
        | none=>none)
      | _,_,_=>none)
    | none=>none
def opIndex (ty:TyT) (st:S) (t:TypeId) (x:Operand) (y:Operand):Option ES:=match tyAt ty t with
    | some ti=>(match ti.arr,evK st.sl x,evK st.sl y with
      | some (len,agg,n),some (.agg cs),some (.one (.i _ i))=>(match idx i len with
        | some i=>cond (Nat.ble (i*n+n) cs.length&&(agg || Nat.beq n 1)) (pureE (mkK agg (subK cs (i*n) n)))
        | none=>none)
      | _,_,_=>none)
    | none=>none
def opExtract (ty:TyT) (st:S) (x:Operand) (i:Nat):Option ES:=match evK st.sl x with
    | some (.tup l)=>(match l[i]? with
      | some (.tup _)=>none
      | some a=>pureE a
      | none=>none)
    | _=>none
def opMax (ty:TyT) (st:S) (args:Array Operand):Option ES:=match evKs st.sl args.toList with
    | some [.one (.i k a),.one (.i k' b)]=>pureE (.one (.i k (match decide (a<b) with | true=>b | false=>a)))
    | _=>none
def opMin (ty:TyT) (st:S) (args:Array Operand):Option ES:=match evKs st.sl args.toList with
    | some [.one (.i k a),.one (.i k' b)]=>pureE (.one (.i k (match decide (b<a) with | true=>b | false=>a)))
    | _=>none
def opE (ty:TyT) (st:S):Op→Option ES
 | .move x | .assign x=>match evK st.sl x with | some a=>pureE a | none=>none
 | .pick c x y=>opPick ty st c x y
 | .alloc t=>opAlloc ty st t
 | .box _ x=>opBox ty st x
 | .build t parts=>opBuild ty st t parts
 | .load t x=>opLoad ty st t x
 | .store t x y=>opStore ty st t x y
 | .nilCheck x=>opNilCheck ty st x
 | .binOp op t x y _=>opBinOp ty st op t x y
 | .unOp op _ x=>opUnOp ty st op x
 | .convert t u x=>opConvert ty st t u x
 | .makeFunc (.func f) first capt=>opMakeFunc ty st f first capt
 | .fieldAddr t x i=>opFieldAddr ty st t x i
 | .field t x i=>opField ty st t x i
 | .indexAddr t x y=>opIndexAddr ty st t x y
 | .index t x y=>opIndex ty st t x y
 | .extract x i=>opExtract ty st x i
 | .call ⟨.builtin .max,args,_⟩=>opMax ty st args
 | .call ⟨.builtin .min,args,_⟩=>opMin ty st args
 | _=>none
structure CO where
 r:KA
 ro:List (Nat×List K)
 rw:List (Nat×List K×List K)
 nb:Option (List K)
abbrev Outs (α:Type):=(List (α×S)→Bool)→Bool
abbrev Caller:=Nat→List KA→S→Outs CO
def mapK {α β:Type} (f:α→S→Outs β):List (α×S)→Outs β
 | [],C=>C []
 | (a,st)::r,C=>match r with
   | []=>f a st C
   | _::_=>f a st fun x=>mapK f r fun y=>C (x++y)
def isPtrK (k:Nat):KA→Bool
 | .one (.ptr k' _)=>Nat.beq k k'
 | _=>false
def nodupB:List Nat→Bool
 | []=>true
 | a::l=>!(l.any (Nat.beq a))&&nodupB l
def coE (st:S) (args:List KA) (co:CO):Option ES:=match co.nb with
 | none=>cond (nodupB (co.ro.map (·.1)++co.rw.map (·.1))&&((co.ro.map (·.1)++co.rw.map (·.1)).all fun k=>args.any (isPtrK k))&&(co.ro.all fun p=>!p.2.isEmpty)&&(co.rw.all fun p=>!p.2.1.isEmpty&&Nat.beq p.2.2.length p.2.1.length))
   (some ⟨co.r,co.ro.map (fun p=>(p.1,0,p.2))++co.rw.map (fun p=>(p.1,0,p.2.1)),co.rw.map (fun p=>(p.1,0,p.2.2)),none⟩)
 | some cs=>cond (!cs.isEmpty&&cs.all nlK&&(memG st.mem st.nx).isNone) (some ⟨.one (.ptr st.nx 0),[],[],some (st.nx,cs)⟩)
def wrS (m:List (Nat×List K)):List (Nat×Nat×List K)→Option (List (Nat×List K))
 | []=>some m
 | (k,off,cs)::r=>match memG m k with
   | some c=>(match Nat.ble (off+cs.length) c.length with | true=>wrS (memS m k (layK c off cs)) r | false=>none)
   | none=>none
def newS (m:List (Nat×List K)):Option (Nat×List K)→Option (List (Nat×List K))
 | none=>some m
 | some p=>match memG m p.1 with | none=>some (p::m) | some _=>none
def appS (st:S) (d:Option Nat) (e:ES) (C:S→Bool):Bool:=
 match wrS st.mem e.wr with
 | none=>false
 | some m=>match newS m e.al with
   | none=>false
   | some m=>natK (match e.al with | some _=>st.nx+1 | none=>st.nx) fun nx=>match d with
     | some t=>T.set 20 st.sl t e.out fun sl=>C ⟨sl,m,nx,st.G⟩
     | none=>C ⟨st.sl,m,nx,st.G⟩
def retE (as:List KA) (nc:Bool) (co:CO) (st':S) (C:List (ES×S)→Bool):Bool:=match coE st' as co with | some e=>(match co.nb.isSome&&nc with | true=>false | false=>C [(e,st')]) | none=>false
def opCall (call:Caller) (st:S) (fx:Operand) (args:Array Operand) (C:List (ES×S)→Bool):Bool:=match evK st.sl fx,evKs st.sl args.toList with
 | some (.one (.fn f caps)),some as=>
   let as:=as++caps.map fun p=> .one (.ptr p.1 p.2)
   call f as st fun l=>mapK (retE as (!caps.isEmpty)) l C
 | _,_=>false
def opRest (ty:TyT) (st:S) (o:Op) (C:List (ES×S)→Bool):Bool:=match opE ty st o with | some e=>C [(e,st)] | none=>false
def opRun (ty:TyT) (call:Caller) (st:S) (o:Op) (C:List (ES×S)→Bool):Bool:=match o with
 | .call ⟨.value fx,args,_⟩=>opCall call st fx args C
 | o=>opRest ty st o C
abbrev Rng:=Nat×Nat×Nat
structure Shp where
 rd:List Rng
 wr:List Rng
 al:Option Nat
def rngK (p:Nat×Nat×List K):Rng:=(p.1,p.2.1,p.2.2.length)
def shpK (e:ES):Shp:=⟨e.rd.map rngK,e.wr.map rngK++(match e.al with | some p=> [(p.1,0,p.2.length)] | none=> []),match e.al with | some p=>some p.1 | none=>none⟩
def ovS (p q:Rng):Bool:=Nat.beq p.1 q.1&&Nat.blt p.2.1 (q.2.1+q.2.2)&&Nat.blt q.2.1 (p.2.1+p.2.2)
def clashS (l:List Oper) (x:Oper) (ex:Shp) (y:Oper) (ey:Shp):Bool:=
 (match x.dst with | some d=>(looks l y).any (Nat.beq d) || (match y.dst with | some d'=>Nat.beq d d' | none=>false) | none=>false) ||
 ex.wr.any fun p=>(ey.rd++ey.wr).any (ovS p)
def apartS (ex ey:Shp):Bool:=match ex.al,ey.al with | some p,some q=>!Nat.beq p q | _,_=>true
def rowS (l:List Oper) (m:Nat) (y:Oper) (ey:Shp):Nat→List Oper→List Shp→Bool
 | j,x::xs,ex::es=>(m.testBit j || !(clashS l x ex y ey || clashS l y ey x ex))&&apartS ex ey&&rowS l m y ey (j+1) xs es
 | _,_,_=>true
def chkS (l:List Oper) (es:List Shp):Bool:=
 let M:=masks [] l
 (List.range l.length).all fun i=>match l[i]?,es[i]? with
  | some y,some ey=>rowS l (M.getD i 0) y ey 0 (l.take i) (es.take i)
  | _,_=>false
def dstsK (n:Nat) (l:List Oper):Bool:=l.all fun o=>match o.dst with | some t=>Nat.blt t n | none=>true
inductive Ex where
 | normal
 | exit (id:Nat)
 | ret
def bitsT:List Nat→Nat→Nat
 | [],m=>m
 | t::r,m=>bitsT r (Nat.lor m (Nat.shiftLeft 1 t))
def killT:Option Nat→Nat→Nat
 | none,m=>m
 | some t,m=>match Nat.testBit m t with | true=>Nat.sub m (Nat.shiftLeft 1 t) | false=>m
def usesL (ops:List Oper):List Oper→Nat→Nat
 | [],m=>m
 | o::l,m=>bitsT (looks ops o) (killT o.dst (usesL ops l m))
def liveC:Code→Nat→Nat→Nat
 | .region _ ops _,_,m=>usesL ops.toList ops.toList m
 | .seq a b,x,m=>liveC a x (liveC b x m)
 | .cond c a b,x,m=>Nat.lor (match c with | .tmp t=>Nat.shiftLeft 1 t | _=>0) (Nat.lor (liveC a x m) (liveC b x m))
 | .block _ c,x,m=>liveC c (Nat.lor x m) m
 | .loop c,x,_=>liveC c x 0
 | .exit _,x,_=>x
 | .ret,x,_=>x
 | _,_,m=>m
def capsEq:List (Nat×Nat)→List (Nat×Nat)→Bool
 | [],[]=>true
 | a::l,b::m=>Nat.beq a.1 b.1&&Nat.beq a.2 b.2&&capsEq l m
 | _,_=>false
def keq:K→K→Bool
 | .q n j i,.q n' j' i'=>Nat.beq i i'&&Nat.beq j j'&&neq n n'
 | .b x,.b y=>!(Bool.xor x y)
 | .i k n,.i k' n'=>Nat.beq (kindN k) (kindN k')&&ieq n n'
 | .und,.und=>true
 | .nilP,.nilP=>true
 | .nilS,.nilS=>true
 | .nilF,.nilF=>true
 | .nilI,.nilI=>true
 | .nilM,.nilM=>true
 | .estr,.estr=>true
 | .fn f c,.fn f' c'=>Nat.beq f f'&&capsEq c c'
 | .ptr k o,.ptr k' o'=>Nat.beq k k'&&Nat.beq o o'
 | .ints a,.ints b=>Nat.beq a b
 | .cnt a h,.cnt a' h'=>Nat.beq a a'&&Nat.beq h h'
 | .sym k a,.sym k' a'=>Nat.beq (kindN k) (kindN k')&&Nat.beq a a'
 | .str l,.str l'=>meq l l'
 | _,_=>false
def keqL:List K→List K→Bool
 | [],[]=>true
 | a::l,b::m=>keq a b&&keqL l m
 | _,_=>false
def kaeq0:KA→KA→Bool
 | .one a,.one b=>keq a b
 | .agg l,.agg m=>keqL l m
 | .junk,.junk=>true
 | _,_=>false
def kaeqL:List KA→List KA→Bool
 | [],[]=>true
 | a::l,b::m=>kaeq0 a b&&kaeqL l m
 | _,_=>false
def kaeq:KA→KA→Bool
 | .tup l,.tup m=>kaeqL l m
 | a,b=>kaeq0 a b
def memEq:List (Nat×List K)→List (Nat×List K)→Bool
 | [],[]=>true
 | p::l,q::m=>Nat.beq p.1 q.1&&keqL p.2 q.2&&memEq l m
 | _,_=>false
def exEq:Ex→Ex→Bool
 | .normal,.normal=>true
 | .ret,.ret=>true
 | .exit i,.exit j=>Nat.beq i j
 | _,_=>false
def slotsEq (mask:Nat) (a b:T):Nat→Bool
 | 0=>true
 | t+1=>(match Nat.testBit mask t with
   | true=>(match a.get t,b.get t with
     | some x,some y=>kaeq x y
     | none,none=>true
     | _,_=>false)
   | false=>true)&&slotsEq mask a b t
def trimT (mask:Nat) (a:T):Nat→T→T
 | 0,r=>r
 | t+1,r=>match Nat.testBit mask t with
   | true=>(match a.get t with
     | some x=>T.set 20 r t x fun r=>trimT mask a t r
     | none=>trimT mask a t r)
   | false=>trimT mask a t r
def factEq:Fact→Fact→Bool
 | .sg p s,.sg q t=>Nat.beq s t&&peq p q
 | .nx a h m v,.nx a' h' m' v'=>Nat.beq a a'&&Nat.beq h h'&&Nat.beq m m'&&Nat.beq v v'
 | _,_=>false
def factsEq:List Fact→List Fact→Bool
 | [],[]=>true
 | a::l,b::m=>factEq a b&&factsEq l m
 | _,_=>false
def joinSg:Nat→Nat→Option (Option Nat)
 | 1,2=>some (some 3)
 | 2,1=>some (some 3)
 | 1,3=>some (some 3)
 | 3,1=>some (some 3)
 | 2,3=>some (some 3)
 | 3,2=>some (some 3)
 | 3,0=>some none
 | 0,3=>some none
 | _,_=>none
def joinF:List Fact→List Fact→Option (List Fact)
 | f::r,g::r'=>match factEq f g with
   | true=>(match joinF r r' with | some h=>some (f::h) | none=>none)
   | false=>(match f,g with
     | .sg p s,.sg q t=>(match joinSg s t with
       | some u=>(match peq p q&&factsEq r r' with
         | true=>some (match u with | some u=> .sg p u::r | none=>r)
         | false=>none)
       | none=>none)
     | _,_=>none)
 | _,_=>none
section
variable {α:Type} (eq:α→α→Bool) (n mask:Nat)
def sameO (a:α) (st:S) (o:α×S):Bool:=eq a o.1&&slotsEq mask st.sl o.2.sl n&&memEq st.mem o.2.mem
def join2 (x y:α×S):Option (α×S):=match joinF x.2.G y.2.G with
 | some G=>(match sameO eq n mask x.1 x.2 y with
   | true=>some (x.1,⟨trimT mask x.2.sl n .nil,x.2.mem,Nat.max x.2.nx y.2.nx,G⟩)
   | false=>none)
 | none=>none
def findZ (x:α×S):List (α×S)→Option ((α×S)×List (α×S))
 | []=>none
 | y::r=>match join2 eq n mask x y with
   | some z=>some (z,r)
   | none=>(match findZ x r with | some (z,r)=>some (z,y::r) | none=>none)
def joinZ:Nat→(α×S)→List (α×S)→List (α×S)
 | 0,x,l=>x::l
 | k+1,x,l=>match findZ eq n mask x l with
   | some (z,r)=>joinZ k z r
   | none=>x::l
def joinL:List (α×S)→List (α×S)
 | []=> []
 | x::r=>joinZ eq n mask 1000 x (joinL r)
def maxNx:List (α×S)→Nat→Nat
 | [],m=>m
 | (_,st)::r,m=>maxNx r (Nat.max m st.nx)
def collapse2 (G:List Fact) (x y:α×S) (r:List (α×S)) (C:List (α×S)→Bool):Bool:=natK mask fun mask=>match joinL eq n mask (x::y::r) with
    | x::y::r=>(match (y::r).all (sameO eq n mask x.1 x.2) with
      | true=>C [(x.1,⟨trimT mask x.2.sl n .nil,x.2.mem,maxNx (y::r) x.2.nx,G⟩)]
      | false=>C (x::y::r))
    | l=>C l
def collapse (G:List Fact) (outs:List (α×S)) (C:List (α×S)→Bool):Bool:=match outs with
 | x::y::r=>collapse2 eq n mask G x y r C
 | outs=>C outs
end
def rngEq:List Rng→List Rng→Bool
 | [],[]=>true
 | p::l,q::m=>Nat.beq p.1 q.1&&Nat.beq p.2.1 q.2.1&&Nat.beq p.2.2 q.2.2&&rngEq l m
 | _,_=>false
def optEq:Option Nat→Option Nat→Bool
 | none,none=>true
 | some a,some b=>Nat.beq a b
 | _,_=>false
def shpEq:List Shp→List Shp→Bool
 | [],[]=>true
 | a::l,b::m=>rngEq a.rd b.rd&&rngEq a.wr b.wr&&optEq a.al b.al&&shpEq l m
 | _,_=>false
def noES:ES:=⟨.one .und,[],[],none⟩
def stepK (d:Option Nat) (es:List Shp) (e:ES) (st:S) (C:List (List Shp×S)→Bool):Bool:=appS st d e fun st=>C [(shpK e::es,st)]
def stepRun (ty:TyT) (call:Caller) (o:Oper) (es:List Shp) (st:S) (C:List (List Shp×S)→Bool):Bool:=opRun ty call st o.op fun x=>mapK (stepK o.dst es) x C
def stepNo (o:Oper) (es:List Shp) (st:S) (C:List (List Shp×S)→Bool):Bool:=appS st o.dst noES fun st=>C [(shpK noES::es,st)]
def stepG (ty:TyT) (call:Caller) (o:Oper) (w:Bool) (es:List Shp) (st:S) (C:List (List Shp×S)→Bool):Option KA→Bool
 | some (.one (.b x))=>(match Bool.xor x w with
   | false=>stepRun ty call o es st C
   | true=>stepNo o es st C)
 | some (.one .und)=>stepNo o es st C
 | _=>false
def stepO (ty:TyT) (call:Caller) (ops:List Oper) (o:Oper) (es:List Shp) (st:S) (C:List (List Shp×S)→Bool):Bool:=match o.guard with
 | none=>stepRun ty call o es st C
 | some (g,w)=>match ops[g]? with
   | some o'=>(match o'.dst with
     | some d=>stepG ty call o w es st C (st.sl.get d)
     | none=>false)
   | none=>false
def runOps (ty:TyT) (call:Caller) (n lv:Nat) (ops:List Oper) (G:List Fact):List Oper→List (List Shp×S)→(List (List Shp×S)→Bool)→Bool
 | [],cur,C=>C cur
 | o::l,cur,C=>mapK (stepO ty call ops o) cur fun nxt=>collapse shpEq n (usesL ops l lv) G nxt fun nxt=>runOps ty call n lv ops G l nxt C
def loopB (n mask:Nat) (body:S→Outs Ex):Nat→S→Outs Ex
 | 0,_,_=>false
 | k+1,st,C=>body st fun outs=>collapse exEq n mask st.G outs fun outs=>mapK (fun e st C=>match e with
   | .normal=>loopB n mask body k st C
   | e=>C [(e,st)]) outs C
def leave (id:Nat):List (Ex×S)→List (Ex×S)
 | []=> []
 | (.exit i,st)::r=>(match Nat.beq i id with | true=> .normal | false=> .exit i,st)::leave id r
 | o::r=>o::leave id r
def exEnd (ops:Array Oper) (d:Bool) (es:List Shp) (st:S) (C:List (Ex×S)→Bool):Bool:=(match d with
    | true=>dagB ops.toList&&chkS ops.toList es.reverse
    | false=>true)&&C [(.normal,st)]
def exReg (ty:TyT) (call:Caller) (n:Nat) (ops:Array Oper) (d:Bool) (lv:Nat) (st:S) (C:List (Ex×S)→Bool):Bool:=
 dstsK n ops.toList&&runOps ty call n lv ops.toList st.G ops.toList [([],st)] fun l=>mapK (exEnd ops d) l C
def execC (ty:TyT) (call:Caller) (n:Nat):Code→Nat→Nat→S→Outs Ex
 | .skip,_,_,st,C=>C [(.normal,st)]
 | .label _,_,_,st,C=>C [(.normal,st)]
 | .exit id,_,_,st,C=>C [(.exit id,st)]
 | .ret,_,_,st,C=>C [(.ret,st)]
 | .region _ ops d,_,lv,st,C=>exReg ty call n ops d lv st C
 | .seq a b,x,lv,st,C=>natK (liveC b x lv) fun lv'=>execC ty call n a x lv' st fun outs=>collapse exEq n (Nat.lor x lv') st.G outs fun outs=>mapK (fun e st C=>match e with
   | .normal=>execC ty call n b x lv st C
   | e=>C [(e,st)]) outs C
 | .cond c a b,x,lv,st,C=>match evK st.sl c with
   | some (.one (.b true))=>execC ty call n a x lv st C
   | some (.one (.b false))=>execC ty call n b x lv st C
   | _=>false
 | .block id c,x,lv,st,C=>execC ty call n c (Nat.lor x lv) lv st fun outs=>collapse exEq n (Nat.lor x lv) st.G (leave id outs) C
 | .loop c,x,_,st,C=>natK (liveC c x 0) fun lv'=>loopB n (Nat.lor x lv') (execC ty call n c x lv') 1000 st C
 | _,_,_,_,_=>false
def pfK:K→Bool
 | .ptr _ _=>false
 | .fn _ caps=>caps.isEmpty
 | _=>true
def pfKA0:KA→Bool
 | .one c=>pfK c
 | .agg cs=>cs.all pfK
 | .junk=>true
 | .tup _=>false
def pfKA:KA→Bool
 | .tup l=>l.all pfKA0
 | a=>pfKA0 a
def inK (ks:List Nat):K→Bool
 | .ptr k _=>ks.any (Nat.beq k)
 | .fn _ caps=>caps.all fun p=>ks.any (Nat.beq p.1)
 | _=>true
def inKA (ks:List Nat):KA→Bool
 | .one c=>inK ks c
 | .agg cs=>cs.all (inK ks)
 | .junk=>true
 | .tup _=>false
def goodK:KA→Bool
 | .one _=>true
 | .agg _=>true
 | _=>false
def resK (ty:TyT) (st:S):ResultVar→Option KA
 | .tmp t=>match st.sl.get t with | some v=>some v | none=>some .junk
 | .cell t u=>match tyAt ty u,st.sl.get t with
   | some i,some (.one (.ptr k off))=>(match memG st.mem k with
     | some cs=>(match Nat.ble (off+i.size) cs.length&&Nat.blt 0 i.size&&(i.agg || Nat.beq i.size 1) with
       | true=>some (mkK i.agg (subK cs off i.size))
       | false=>none)
     | none=>none)
   | _,_=>none
def resKs (ty:TyT) (st:S):List ResultVar→Option (List KA)
 | []=>some []
 | r::rs=>match resK ty st r with | some k=>(match resKs ty st rs with | some l=>some (k::l) | none=>none) | none=>none
def joinK:List KA→KA
 | [a]=>a
 | l=> .tup l
def addN (k:Nat) (l:List Nat):List Nat:=match l.any (Nat.beq k) with | true=>l | false=>k::l
def idsOf:List KA→List Nat
 | []=> []
 | .one (.ptr k _)::r=>addN k (idsOf r)
 | _::r=>idsOf r
def pickM (m:List (Nat×List K)):List Nat→Option (List (Nat×List K))
 | []=>some []
 | k::r=>match memG m k with | some cs=>(match pickM m r with | some l=>some ((k,cs)::l) | none=>none) | none=>none
def argT:Nat→List KA→T→T
 | _,[],t=>t
 | n,a::r,t=>T.set 20 t n a fun t=>argT (n+1) r t
def splitM (m:List (Nat×List K)):List (Nat×List K)→Option (List (Nat×List K)×List (Nat×List K×List K))
 | []=>some ([],[])
 | (k,cs)::r=>match memG m k,splitM m r with
   | some cs',some (a,b)=>(match keqL cs cs' with | true=>some ((k,cs)::a,b) | false=>some (a,(k,cs,cs')::b))
   | _,_=>none
abbrev Leaf:=List KA→S→Outs CO
structure Cfg where
 ty:TyT
 leaf:Nat→Option Leaf
 nm:Nat→List (Nat×Poly)
def defAt:List (Nat×Poly)→Poly→Option Nat
 | [],_=>none
 | (a,D)::r,p=>match peq D p with | true=>some a | false=>defAt r p
def nmN (ds:List (Nat×Poly)) (p:Poly):Option Poly:=match defAt ds p with
 | some a=>some [([a],1)]
 | none=>natK (gcdP p) fun g=>match negHead p with
   | ng=>polyK (pdiv ng g p) fun q=>monoK (comM q) fun m=>polyK (divM m q) fun q'=>match defAt ds q' with
     | some a=>(match peq (pscale (match ng with | true=>Int.neg (.ofNat g) | false=> .ofNat g) (pmulT m 1 q')) p with
       | true=>some [(mins a m,match ng with | true=>Int.neg (.ofNat g) | false=> .ofNat g)]
       | false=>none)
     | none=>none
def nmK (ds:List (Nat×Poly)):K→K
 | .q n j i=>match nmN ds n.p with | some p=> .q ⟨p,n.d⟩ j i | none=> .q n j i
 | k=>k
def nmA0 (ds:List (Nat×Poly)):KA→KA
 | .one k=> .one (nmK ds k)
 | .agg l=> .agg (l.map (nmK ds))
 | a=>a
def nmA (ds:List (Nat×Poly)) (a:KA):KA:=match ds with
 | []=>a
 | _=>match a with
   | .tup l=> .tup (l.map (nmA0 ds))
   | a=>nmA0 ds a
def nmL (ds:List (Nat×Poly)) (l:List (CO×S)):List (CO×S):=match ds with
 | []=>l
 | _=>l.map fun p=>(⟨nmA ds p.1.r,p.1.ro,p.1.rw,p.1.nb⟩,p.2)
def resMask:List ResultVar→Nat→Nat
 | [],m=>m
 | .tmp t::r,m=>resMask r (Nat.lor m (Nat.shiftLeft 1 t))
 | .cell t _::r,m=>resMask r (Nat.lor m (Nat.shiftLeft 1 t))
def callF (P:Program) (cf:Cfg):Nat→Caller
 | 0,_,_,_,_=>false
 | n+1,f,args,st,C=>match cf.leaf f with
   | some lf=>lf args st fun l=>C (nmL (cf.nm f) l)
   | none=>match P.funcs[f]? with
     | some fn=>(match fn.body with
       | some c=>(match pickM st.mem (idsOf args) with
         | some bs=>Nat.ble args.length fn.ntmps&&(args.all (inKA (idsOf args)))&&(bs.all fun p=>p.2.all fun c=>pfK c&&nlK c)&&
           execC cf.ty (callF P cf n) fn.ntmps c (resMask fn.results.toList 0) (resMask fn.results.toList 0) ⟨argT 0 args .nil,bs,st.nx,st.G⟩ fun l=>mapK (fun e st' C=>match e with
            | .exit _=>false
            | _=>(match resKs cf.ty st' fn.results.toList,splitM st'.mem bs with
              | some rs,some (ro,rw)=>pfKA (joinK rs)&&(Nat.beq rs.length 1 || rs.all goodK)&&(rw.all fun p=>p.2.2.all fun c=>pfK c&&nlK c)&&C [(⟨nmA (cf.nm f) (joinK rs),ro,rw,none⟩,⟨st.sl,st.mem,st'.nx,st'.G⟩)]
              | _,_=>false)) l C
         | none=>false)
       | none=>false)
     | none=>false
end Go.Proofs.YteiibidmicgjoaaGreatDoor
