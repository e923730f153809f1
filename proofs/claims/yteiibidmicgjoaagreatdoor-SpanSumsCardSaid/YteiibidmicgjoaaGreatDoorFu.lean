/-
  Several texts in one: Fc, Fd, Fe.
-/
import Derived.Test.YteiibidmicgjoaaGreatDoorFv
namespace Go.Proofs.YteiibidmicgjoaaGreatDoor
open Go.RowKit
set_option linter.unusedVariables false
set_option linter.unusedSimpArgs false
def prim (p:Poly) (C:Bool→Poly→Bool):Bool:=
 natK (gcdP p) fun g=>match negHead p with
  | ng=>match ng || !Nat.beq g 1 with
    | false=>C false p
    | true=>polyK (pdiv ng g p) fun q=>match peq (pscale (match ng with | true=>Int.neg (.ofNat g) | false=> .ofNat g) q) p&&Nat.blt 0 g with
      | true=>C ng q
      | false=>C false p
def lookG:List Fact→Poly→Option Nat
 | [],_=>none
 | .sg q s::r,p=>match peq q p with | true=>some s | false=>lookG r p
 | _::r,p=>lookG r p
def impS (s t:Nat):Bool:=Nat.beq s t || (Nat.beq t 3&&(Nat.beq s 1 || Nat.beq s 2))
abbrev Inf:=List (List (Poly×Nat))
def deadB (inf:Inf) (G:List Fact):Bool:=inf.any fun h=>h.all fun x=>match lookG G x.1 with | some s=>impS s x.2 | none=>false
def flipS (ng:Bool) (s:Nat):Nat:=match ng with
 | false=>s
 | true=>match s with | 1=>2 | 2=>1 | s=>s
def constS:Int→Nat
 | .ofNat n=>match Nat.beq n 0 with | true=>0 | false=>1
 | .negSucc _=>2
def cntM (a:Nat):Mono→Nat
 | []=>0
 | b::m=>match Nat.beq a b with | true=>Nat.succ (cntM a m) | false=>cntM a m
def delM (a:Nat):Mono→Mono
 | []=> []
 | b::m=>match Nat.beq a b with | true=>delM a m | false=>b::delM a m
def degP (a:Nat):Poly→Nat
 | []=>0
 | (m,_)::p=>Nat.max (cntM a m) (degP a p)
def ppow (D:Poly):Nat→Poly
 | 0=> [([],1)]
 | n+1=>pmul D (ppow D n)
def clrP (a:Nat) (D:Poly) (n:Nat):Poly→Poly
 | []=> []
 | (m,c)::p=>padd (pmulT (delM a m) c (ppow D (n-cntM a m))) (clrP a D n p)
abbrev Tab:=List (Nat×Poly)
def clears (G:List Fact):Tab→Poly→(Poly→Bool)→Bool
 | [],p,C=>C p
 | (a,D)::r,p,C=>natK (degP a p) fun n=>match Nat.beq n 0 with
   | true=>clears G r p C
   | false=>match lookG G D with
     | some s=>(match impS s 3 with
       | true=>polyK (clrP a D (n+n % 2) p) fun p=>clears G r p C
       | false=>clears G r p C)
     | none=>clears G r p C
def mulS (s t:Nat):Nat:=match s with
 | 0=>0
 | 1=>t
 | 2=>(match t with | 1=>2 | 2=>1 | t=>t)
 | _=>(match t with | 0=>0 | _=>3)
def askB (z:Bool) (inf:Inf) (q:Poly) (st:S) (C:List (Nat×S)→Bool):Bool:=
 let go (s:Nat) (r:List (Nat×S)):List (Nat×S):=let G:=Fact.sg q s::st.G;match deadB inf G with | true=>r | false=>(s,⟨st.sl,st.mem,st.nx,G⟩)::r
 match lookG st.G q with
 | none=>(match z with | true=>C (go 3 (go 0 [])) | false=>C (go 1 (go 2 (go 0 []))))
 | some 3=>(match z with | true=>C [(3,st)] | false=>C (go 1 (go 2 [])))
 | some s=>C [(s,st)]
def askM (z:Bool) (inf:Inf):Mono→Nat→S→(List (Nat×S)→Bool)→Bool
 | [],s,st,C=>C [(s,st)]
 | a::m,s,st,C=>askB z inf [([a],1)] st fun l=>mapK (fun t st C=>match t with
   | 0=>C [(0,st)]
   | t=>askM z inf m (mulS s t) st C) l C
def askC (z:Bool) (inf:Inf) (q:Poly) (st:S) (C:List (Nat×S)→Bool):Bool:=match q with
 | [([],c)]=>C [(constS c,st)]
 | q=>askB z inf q st C
def askQ (z:Bool) (inf:Inf) (q:Poly) (st:S) (C:List (Nat×S)→Bool):Bool:=match comM q with
 | []=>askB z inf q st C
 | m=>monoK m fun m=>polyK (divM m q) fun q'=>match peq (pmulT m 1 q') q with
   | false=>askB z inf q st C
   | true=>askM z inf m 1 st fun l=>mapK (fun s st C=>match s with
     | 0=>C [(0,st)]
     | s=>askC z inf q' st fun l=>mapK (fun t st C=>C [(mulS s t,st)]) l C) l C
def flipL (ng:Bool):List (Nat×S)→List (Nat×S)
 | []=> []
 | (s,st)::r=>(flipS ng s,st)::flipL ng r
def askP (z:Bool) (tab:Tab) (inf:Inf) (p:Poly) (st:S) (C:List (Nat×S)→Bool):Bool:=
 polyK p fun p=>clears st.G tab p fun p=>match p with
  | []=>C [(0,st)]
  | [([],c)]=>C [(constS c,st)]
  | p=>prim p fun ng q=>askQ z inf q st fun l=>C (flipL ng l)
def askS (tab:Tab) (inf:Inf) (p:Poly) (st:S) (C:List (Nat×S)→Bool):Bool:=askP false tab inf p st C
def zeroL:List (Nat×S)→List (Bool×S)
 | []=> []
 | (s,st)::r=>(Nat.beq s 0,st)::zeroL r
def askZ (tab:Tab) (inf:Inf) (p:Poly) (st:S) (C:List (Bool×S)→Bool):Bool:=askP true tab inf p st fun l=>C (zeroL l)
def numA (n:Num) (j:Nat):KA:= .agg [.q n j 0,.q n j 1,.q n j 2]
def numOf:KA→Option (Num×Nat)
 | .agg [.q n j 0,.q n' j' 1,.q n'' j'' 2]=>match neq n n'&&neq n n''&&Nat.beq j j'&&Nat.beq j j'' with
   | true=>some (n,j)
   | false=>none
 | .agg [.b false,.nilS,.nilS]=>some (⟨[],0⟩,0)
 | _=>none
def one (r:KA):CO:=⟨r,[],[],none⟩
def small (j:Nat):Bool:=Nat.ble j 100000000
def outs {α:Type} (f:α→KA):List (α×S)→List (CO×S)
 | []=> []
 | (a,st)::r=>(one (f a),st)::outs f r
def on2 (body:Num→Nat→Num→Nat→S→Outs CO):Leaf:=fun args st C=>match args with
 | [a,b]=>match numOf a,numOf b with
   | some (x,j),some (y,k)=>body x j y k st C
   | _,_=>false
 | _=>false
def on1 (body:Num→Nat→S→Outs CO):Leaf:=fun args st C=>match args with
 | [a]=>match numOf a with
   | some (x,j)=>body x j st C
   | _=>false
 | _=>false
def lf2 (f:Num→Num→Num) (s:Nat):Leaf:=on2 fun x j y k st C=>small j&&small k&&numK (f x y) fun z=>natK (j+k+s) fun j=>C [(one (numA z j),st)]
def lfNeg:Leaf:=on1 fun x j st C=>small j&&numK (nneg x) fun z=>natK (j+1) fun j=>C [(one (numA z j),st)]
def int64 (n:Int):Bool:=decide (-9223372036854775808≤n)&&decide (n<9223372036854775808)
def lfInt:Leaf:=fun args st C=>match args with
 | [.one (.i .i64 n)]=>int64 n&&intK n fun n=>C [(one (numA (nint n) 2),st)]
 | _=>false
def sgI:Nat→Int | 0=>0 | 1=>1 | _=> -1
def lfSign (tab:Tab) (inf:Inf):Leaf:=on1 fun x j st C=>askS tab inf x.p st fun l=>C (outs (fun s=> .one (.i .i64 (sgI s))) l)
def lfCmp (tab:Tab) (inf:Inf):Leaf:=on2 fun x j y k st C=>small j&&small k&&askS tab inf (nsub x y).p st fun l=>C (outs (fun s=> .one (.i .i64 (sgI s))) l)
def lfSame (tab:Tab) (inf:Inf):Leaf:=on2 fun x j y k st C=>small j&&small k&&askZ tab inf (nsub x y).p st fun l=>C (outs (fun s=> .one (.b s)) l)
def selN (t s:Nat) (x y:Num):Num:=match Nat.beq s t with | true=>y | false=>x
def selL (t:Nat) (x y:Num) (j:Nat) (st:S) (l:List (Nat×S)) (C:List (CO×S)→Bool):Bool:=match l.all fun q=>!Nat.beq q.1 (3-t) with
 | true=>C [(one (numA y j),st)]
 | false=>match l.all fun q=>!Nat.beq q.1 t with
   | true=>C [(one (numA x j),st)]
   | false=>C (outs (fun s=>numA (selN t s x y) j) l)
def lfMin (tab:Tab) (inf:Inf):Leaf:=on2 fun x j y k st C=>small j&&small k&&askS tab inf (nsub x y).p st fun l=>natK (j+k+1) fun j=>selL 1 x y j st l C
def lfMax (tab:Tab) (inf:Inf):Leaf:=on2 fun x j y k st C=>small j&&small k&&askS tab inf (nsub x y).p st fun l=>natK (j+k+1) fun j=>selL 2 x y j st l C
def nhalf:Num:=⟨[([],1)],1⟩
def lfMid:Leaf:=on2 fun x j y k st C=>small j&&small k&&numK (nmul (nadd x y) nhalf) fun z=>natK (j+k+4) fun j=>C [(one (numA z j),st)]
def tabAt:Tab→Poly→Option Nat
 | [],_=>none
 | (a,D)::r,p=>match peq D p with | true=>some a | false=>tabAt r p
def invN (tab:Tab) (x:Num) (C:Num→Bool):Bool:=polyK x.p fun p=>match p with
 | [([],.ofNat n)]=>(match n with | 0=>false | k+1=>C ⟨[([],.ofNat (x.d+1))],k⟩)
 | [([],.negSucc n)]=>C ⟨[([],Int.neg (.ofNat (x.d+1)))],n⟩
 | p=>prim p fun ng q=>match tabAt tab q with
   | some a=>natK (gcdP p) fun g=>(match peq (pscale (match ng with | true=>Int.neg (.ofNat g) | false=> .ofNat g) q) p with
     | true=>(match g with | 0=>false | k+1=>C ⟨[([a],match ng with | true=>Int.neg (.ofNat (x.d+1)) | false=> .ofNat (x.d+1))],k⟩)
     | false=>false)
   | none=>false
def lfQuo (tab:Tab) (inf:Inf):Leaf:=on2 fun x j y k st C=>small j&&small k&&askZ tab inf y.p st fun l=>mapK (fun z st C=>match z with
   | true=>C [(one (.tup [.agg [.b false,.nilS,.nilS],.one (.i .i64 3)]),st)]
   | false=>invN tab y fun i=>numK (nmul x i) fun z=>natK (j+k+2) fun j=>C [(one (.tup [numA z j,.one (.i .i64 0)]),st)]) l C
def lfOver (tab:Tab) (inf:Inf):Leaf:=on2 fun x j y k st C=>small j&&small k&&askZ tab inf y.p st fun l=>mapK (fun z st C=>match z with
   | true=>false
   | false=>invN tab y fun i=>numK (nmul x i) fun z=>natK (j+k+2) fun j=>C [(one (numA z j),st)]) l C
def lfRoll:Leaf:=fun args st C=>match args with
 | [.one (.ints a)]=>C [(⟨.junk,[],[],some [.ints a,.cnt a 0]⟩,st)]
 | _=>false
end Go.Proofs.YteiibidmicgjoaaGreatDoor
namespace Go.Proofs.YteiibidmicgjoaaGreatDoor
open Go.RowKit
set_option linter.unusedVariables false
set_option linter.unusedSimpArgs false
structure Env where
 V:Nat→Rat
 L:Nat→List Int
 pos:Nat→Nat→Nat
 I:Nat→Int
 N:Nat→Nat→Nat→Nat
section
variable (E:Env)
def cK:K→C
 | .q n j i=> .q (n.ev E.V) j i
 | .b x=> .v (.bool x)
 | .i k n=> .v (.int k n)
 | .nilP=> .v (.pointer none)
 | .nilS=> .v (.slice none 0 0)
 | .nilF=> .v .nilFunc
 | .nilI=> .v .nilIface
 | .nilM=> .v (.map none)
 | .estr=> .v (.string ⟨#[]⟩)
 | .und=> .v undef
 | .ptr k o=> .ptr k o
 | .fn f caps=> .fn f caps
 | .ints a=> .ints (E.L a)
 | .cnt a h=> .v (.int .i64 (E.pos a h:Nat))
 | .sym k a=> .v (.int k (E.I a))
 | .str l=> .v (.string ⟨(l.map UInt8.ofNat).toArray⟩)
def aK0:KA→AV
 | .one k=> .one (cK E k)
 | .agg l=> .agg (l.map (cK E))
 | .tup _=> .junk
 | .junk=> .junk
def aK:KA→AV
 | .tup l=> .tup (l.map (aK0 E))
 | a=>aK0 E a
def slK (sl:T) (t:Nat):AV:=match sl.get t with | some a=>aK E a | none=> .junk
def mK (m:List (Nat×List K)) (k o:Nat):C:=match memG m k with
 | some cs=>(match cs[o]? with | some c=>cK E c | none=> .v (.bool false))
 | none=> .v (.bool false)
def zK (m:List (Nat×List K)) (k:Nat):Nat:=match memG m k with | some cs=>cs.length | none=>0
def sgOk (x:Rat):Nat→Prop
 | 0=>x=0
 | 1=>0<x
 | 2=>x<0
 | 3=>x≠0
 | _=>False
def Fact.ok:Fact→Prop
 | .sg p s=>sgOk (evP E.V p) s
 | .nx a h m v=>E.N a h m=v
def Sat (G:List Fact):Prop:= ∀f∈G,f.ok E
def rK (p:Nat×Nat×List K):Nat×Nat×List C:=(p.1,p.2.1,p.2.2.map (cK E))
def eK (e:ES):Eff:=⟨aK E e.out,e.rd.map (rK E),e.wr.map (rK E),e.al.map fun p=>(p.1,p.2.map (cK E))⟩
end
variable {E:Env}
theorem T.get_one (k0:Nat) (v:KA) (k:Nat):(T.one k0 v).get k=if k=k0 then some v else none:=by
 unfold T.get
 cases hb:Nat.beq k0 k with
 | true=>rw [if_pos (Nat.eq_of_beq_eq_true hb).symm]
 | false=>rw [if_neg (fun h=>by subst h;simp at hb)]
theorem T.get_nodeS (l:T) (v:Option KA) (r:T) (k:Nat):(T.node l v r).get (k+1)=if k % 2=0 then l.get (k/2) else r.get (k/2):=by
 show (match Nat.beq (k % 2) 0 with | true=>l.get (k/2) | false=>r.get (k/2))=_
 cases hb:Nat.beq (k % 2) 0 with
 | true=>rw [if_pos (Nat.eq_of_beq_eq_true hb)]
 | false=>rw [if_neg (fun h=>by rw [h] at hb;simp at hb)]
theorem T.get_nil (k:Nat):T.nil.get k=none:=by cases k<;>rfl
theorem T.get_expand (k0:Nat) (v:KA) (k:Nat):(T.expand k0 v).get k=(T.one k0 v).get k:=by
 rw [T.get_one]
 cases k0 with
 | zero=>
   show (T.node .nil (some v) .nil).get k=_
   cases k with
   | zero=>rfl
   | succ k=>rw [T.get_nodeS,if_neg (Nat.succ_ne_zero k)];split<;>exact T.get_nil _
 | succ k0=>
   show (match Nat.beq (k0 % 2) 0 with | true=>T.node (.one (k0/2) v) none .nil | false=> .node .nil none (.one (k0/2) v)).get k=_
   cases hb:Nat.beq (k0 % 2) 0 with
   | true=>
     have h0:=Nat.eq_of_beq_eq_true hb
     cases k with
     | zero=>rw [if_neg (Nat.succ_ne_zero k0).symm];rfl
     | succ k=>
       show (T.node (.one (k0/2) v) none .nil).get (k+1)=_
       rw [T.get_nodeS]
       split
       ·rw [T.get_one]
        by_cases hk:k=k0
        ·subst hk;rw [if_pos rfl,if_pos rfl]
        ·rw [if_neg (by omega),if_neg (by omega)]
       ·rw [T.get_nil,if_neg (by omega)]
   | false=>
     have h0: ¬k0 % 2=0:=fun h=>by rw [h] at hb;simp at hb
     cases k with
     | zero=>rw [if_neg (Nat.succ_ne_zero k0).symm];rfl
     | succ k=>
       show (T.node .nil none (.one (k0/2) v)).get (k+1)=_
       rw [T.get_nodeS]
       split
       ·rw [T.get_nil,if_neg (by omega)]
       ·rw [T.get_one]
        by_cases hk:k=k0
        ·subst hk;rw [if_pos rfl,if_pos rfl]
        ·rw [if_neg (by omega),if_neg (by omega)]
theorem T.set_spec: ∀(n:Nat) (t:T) (k:Nat) (v:KA),∃t',(∀ {α:Type} (C:T→α),T.set n t k v C=C t')∧ ∀k',t'.get k'=if k'=k then some v else t.get k'
 | 0,t,k,v=>⟨.ovr k v t,fun C=>rfl,fun k'=>by
   show (match Nat.beq k k' with | true=>some v | false=>t.get k')=_
   cases hb:Nat.beq k k' with
   | true=>rw [if_pos (Nat.eq_of_beq_eq_true hb).symm]
   | false=>rw [if_neg (fun h=>by subst h;simp at hb)]⟩
 | n+1,.nil,k,v=>⟨.one k v,fun C=>rfl,fun k'=>by rw [T.get_one,T.get_nil]⟩
 | n+1,.one k0 v0,k,v=>by
   cases hb:Nat.beq k0 k with
   | true=>
     refine ⟨.one k v,fun C=>?_,fun k'=>?_⟩
     ·show (match Nat.beq k0 k with | true=>C (.one k v) | false=>T.set n (T.expand k0 v0) k v C)=_
      rw [hb]
     ·rw [T.get_one,T.get_one,Nat.eq_of_beq_eq_true hb]
      split<;>rfl
   | false=>
     obtain ⟨t',h1,h2⟩:=T.set_spec n (T.expand k0 v0) k v
     refine ⟨t',fun C=>?_,fun k'=>?_⟩
     ·show (match Nat.beq k0 k with | true=>C (.one k v) | false=>T.set n (T.expand k0 v0) k v C)=_
      rw [hb];exact h1 C
     ·rw [h2,T.get_expand]
 | n+1,.node l x r,0,v=>⟨.node l (some v) r,fun C=>rfl,fun k'=>by
   cases k' with
   | zero=>rfl
   | succ k'=>rw [if_neg (Nat.succ_ne_zero k'),T.get_nodeS,T.get_nodeS]⟩
 | n+1,.node l x r,k+1,v=>by
   cases hb:Nat.beq (k % 2) 0 with
   | true=>
     have h0:=Nat.eq_of_beq_eq_true hb
     obtain ⟨t',h1,h2⟩:=T.set_spec n l (k/2) v
     refine ⟨.node t' x r,fun C=>?_,fun k'=>?_⟩
     ·show (match Nat.beq (k % 2) 0 with | true=>T.set n l (k/2) v fun l=>C (.node l x r) | false=>T.set n r (k/2) v fun r=>C (.node l x r))=_
      rw [hb];exact h1 _
     ·cases k' with
      | zero=>rw [if_neg (by omega)];rfl
      | succ k'=>
        rw [T.get_nodeS,T.get_nodeS,h2]
        by_cases hk:k'=k
        ·subst hk;rw [if_pos h0,if_pos rfl,if_pos rfl]
        ·by_cases hp:k' % 2=0
         ·rw [if_pos hp,if_pos hp,if_neg (by omega),if_neg (by omega)]
         ·rw [if_neg hp,if_neg hp,if_neg (by omega)]
   | false=>
     have h0: ¬k % 2=0:=fun h=>by rw [h] at hb;simp at hb
     obtain ⟨t',h1,h2⟩:=T.set_spec n r (k/2) v
     refine ⟨.node l x t',fun C=>?_,fun k'=>?_⟩
     ·show (match Nat.beq (k % 2) 0 with | true=>T.set n l (k/2) v fun l=>C (.node l x r) | false=>T.set n r (k/2) v fun r=>C (.node l x r))=_
      rw [hb];exact h1 _
     ·cases k' with
      | zero=>rw [if_neg (by omega)];rfl
      | succ k'=>
        rw [T.get_nodeS,T.get_nodeS,h2]
        by_cases hk:k'=k
        ·subst hk;rw [if_neg h0,if_pos rfl,if_pos rfl]
        ·by_cases hp:k' % 2=0
         ·rw [if_pos hp,if_pos hp,if_neg (by omega)]
         ·rw [if_neg hp,if_neg hp,if_neg (by omega),if_neg (by omega)]
 | n+1,.ovr k0 v0 t,k,v=>⟨.ovr k v (.ovr k0 v0 t),fun C=>rfl,fun k'=>by
   show (match Nat.beq k k' with | true=>some v | false=>(T.ovr k0 v0 t).get k')=_
   cases hb:Nat.beq k k' with
   | true=>rw [if_pos (Nat.eq_of_beq_eq_true hb).symm]
   | false=>rw [if_neg (fun h=>by subst h;simp at hb)]⟩
theorem memG_memS: ∀(m:List (Nat×List K)) (k:Nat) (c:List K) (k':Nat),memG (memS m k c) k'=if k'=k then some c else memG m k'
 | [],k,c,k'=>by
   show (match Nat.beq k k' with | true=>some c | false=>none)=_
   cases hb:Nat.beq k k' with
   | true=>rw [if_pos (Nat.eq_of_beq_eq_true hb).symm]
   | false=>rw [if_neg (fun h=>by subst h;simp at hb)];rfl
 | p::r,k,c,k'=>by
   unfold memS
   split
   ·rename_i hb
    have h1:=Nat.eq_of_beq_eq_true hb
    show (match Nat.beq k k' with | true=>some c | false=>memG r k')=_
    cases hb2:Nat.beq k k' with
    | true=>rw [if_pos (Nat.eq_of_beq_eq_true hb2).symm]
    | false=>
      rw [if_neg (fun h=>by subst h;simp at hb2)]
      show _=(match Nat.beq p.1 k' with | true=>some p.2 | false=>memG r k')
      rw [h1,hb2]
   ·rename_i hb
    show (match Nat.beq p.1 k' with | true=>some p.2 | false=>memG (memS r k c) k')=_
    rw [memG_memS r k c k']
    show _=if k'=k then some c else (match Nat.beq p.1 k' with | true=>some p.2 | false=>memG r k')
    cases hb2:Nat.beq p.1 k' with
    | true=>exact (if_neg (show ¬k'=k from fun h=>by subst h;rw [hb2] at hb;cases hb)).symm
    | false=>rfl
theorem layK_len: ∀(cs:List K) (o:Nat) (l:List K),(layK cs o l).length=cs.length
 | _,_,[]=>rfl
 | cs,o,c::r=>by show (layK (cs.set o c) (o+1) r).length=_;rw [layK_len,List.length_set]
theorem layK_get: ∀(l cs:List K) (o:Nat) (i:Nat),o+l.length≤cs.length→(layK cs o l)[i]?=if o≤i∧i<o+l.length then l[i-o]? else cs[i]?
 | [],cs,o,i,_=>by rw [if_neg (by simp only [List.length_nil];omega)];rfl
 | c::r,cs,o,i,h=>by
   simp only [List.length_cons] at h⊢
   show (layK (cs.set o c) (o+1) r)[i]?=_
   rw [layK_get r (cs.set o c) (o+1) i (by simp;omega)]
   by_cases h1:o=i
   ·subst h1
    rw [if_neg (by omega),if_pos (by omega),Nat.sub_self,List.getElem?_set_self (by omega)]
    rfl
   ·by_cases h2:o+1≤i∧i<o+1+r.length
    ·rw [if_pos h2,if_pos (by omega)]
     have:i-o=(i-(o+1))+1:=by omega
     rw [this];simp
    ·rw [if_neg h2,if_neg (by omega)]
     simp [h1]
theorem cellK_ok {v:Value} {k:K} (h:cellK v=some k):cK E k= .v v:=by
 unfold cellK at h
 split at h<;>first | (cases h;rfl) | skip
 ·rename_i s
  split at h
  ·rename_i hb
   cases h
   have:=Nat.eq_of_beq_eq_true hb
   have h2:s=⟨#[]⟩:=by
    obtain ⟨d⟩:=s
    congr 1
    exact Array.eq_empty_of_size_eq_zero this
   rw [h2];rfl
  ·cases h
   show C.v (.string ⟨((s.data.toList.map UInt8.toNat).map UInt8.ofNat).toArray⟩)= .v (.string s)
   have e:(s.data.toList.map UInt8.toNat).map UInt8.ofNat=s.data.toList:=by
    rw [List.map_map]
    have:(UInt8.ofNat∘UInt8.toNat)=id:=by funext b;simp
    rw [this,List.map_id]
   rw [e]
 ·cases h
theorem cellsK_ok: ∀ {l:List Value} {ks:List K},cellsK l=some ks→ks.map (cK E)=l.map .v
 | [],ks,h=>by cases h;rfl
 | v::r,ks,h=>by
   unfold cellsK at h
   split at h
   ·rename_i k hk
    split at h
    ·rename_i l hl
     cases h
     rw [List.map_cons,List.map_cons,cellK_ok hk,cellsK_ok hl]
    ·cases h
   ·cases h
theorem evK_ok {sl:T} {x:Operand} {a:KA} (h:evK sl x=some a):evC (slK E sl) x=aK E a:=by
 cases x with
 | tmp t=>
   have h:(match sl.get t with | some v=>some v | none=>some KA.junk)=some a:=h
   show slK E sl t=_
   unfold slK
   cases hv:sl.get t with
   | some v=>rw [hv] at h;cases h;rfl
   | none=>rw [hv] at h;cases h;rfl
 | const v=>
   have key: ∀ {v:Value},(match cellK v with | some k=>some (KA.one k) | none=>none)=some a→AV.one (.v v)=aK E a:=fun {v} h=>by
    cases hk:cellK v with
    | some k=>
      rw [hk] at h
      cases h
      show _=AV.one (cK E k)
      rw [cellK_ok hk]
    | none=>rw [hk] at h;cases h
   cases v with
   | agg cs=>
     have h:(match cellsK cs.toList with | some l=>some (KA.agg l) | none=>none)=some a:=h
     cases hl:cellsK cs.toList with
     | some l=>
       rw [hl] at h
       cases h
       show AV.agg (cs.toList.map .v)=AV.agg (l.map (cK E))
       rw [cellsK_ok hl]
     | none=>rw [hl] at h;cases h
   | _=>exact key h
 | global g=>cases h;rfl
 | func f=>cases h;rfl
theorem evKs_ok {sl:T} : ∀ {l:List Operand} {as:List KA},evKs sl l=some as→l.map (evC (slK E sl))=as.map (aK E)
 | [],as,h=>by cases h;rfl
 | x::r,as,h=>by
   unfold evKs at h
   split at h
   ·rename_i k hk
    split at h
    ·rename_i l hl
     cases h
     rw [List.map_cons,List.map_cons,evK_ok hk,evKs_ok hl]
    ·cases h
   ·cases h
theorem acK_ok (a:KA):acells (aK E a)=(acK a).map (cK E):=by
 cases a<;>rfl
theorem isAggK_ok (a:KA):isAggB (aK E a)=isAggK a:=by
 cases a<;>rfl
theorem nlK_ok {k:K} (h:nlK k=true):nlB (cK E k)=true:=by
 cases k with
 | i k n=>cases k<;>first | rfl | cases h
 | sym k a=>cases k<;>first | rfl | cases h
 | und=>cases h
 | _=>rfl
theorem nlKs_ok {l:List K} (h:l.all nlK=true):(l.map (cK E)).all nlB=true:=by
 rw [List.all_map]
 exact List.all_eq_true.2 fun k hk=>nlK_ok (List.all_eq_true.1 h k hk)
theorem mkK_ok (b:Bool) (l:List K):aK E (mkK b l)=mkA b (l.map (cK E)):=by
 cases b with
 | true=>rfl
 | false=>cases l<;>rfl
theorem subK_map (cs:List K) (off n:Nat):(subK cs off n).map (cK E)=((cs.map (cK E)).drop off).take n:=by
 unfold subK
 rw [List.map_take,List.map_drop]
theorem cond_some {c:Bool} {r:Option ES} {e:ES} (h:cond c r=some e):c=true∧r=some e:=by
 cases c with
 | true=>exact ⟨rfl,h⟩
 | false=>cases h
theorem kindN_inj {a b:IntKind} (h:Nat.beq (kindN a) (kindN b)=true):a=b:=by
 have:=Nat.eq_of_beq_eq_true h
 cases a<;>cases b<;>first | rfl | (exact absurd this (by decide))
theorem zK_some {m:List (Nat×List K)} {k:Nat} {cs:List K} (h:memG m k=some cs):zK m k=cs.length:=by unfold zK;rw [h]
theorem zK_none {m:List (Nat×List K)} {k:Nat} (h:memG m k=none):zK m k=0:=by unfold zK;rw [h]
theorem mK_some {m:List (Nat×List K)} {k o:Nat} {cs:List K} {c:K} (h:memG m k=some cs) (hc:cs[o]?=some c):mK E m k o=cK E c:=by
 unfold mK;rw [h];simp only [hc]
theorem rdL_mK {m:List (Nat×List K)} {k:Nat} {cs:List K} (h:memG m k=some cs): ∀(n off:Nat),off+n≤cs.length→rdL (mK E m k) off n=(subK cs off n).map (cK E)
 | 0,off,_=>by simp [rdL,subK]
 | n+1,off,hl=>by
   have hlt:off<cs.length:=by omega
   unfold rdL
   rw [rdL_mK h n (off+1) (by omega),mK_some h (List.getElem?_eq_getElem hlt)]
   unfold subK
   rw [List.drop_eq_getElem_cons hlt]
   simp only [List.take_succ_cons,List.map_cons]
end Go.Proofs.YteiibidmicgjoaaGreatDoor
namespace Go.Proofs.YteiibidmicgjoaaGreatDoor
open Go.RowKit
set_option linter.unusedVariables false
set_option linter.unusedSimpArgs false
theorem xor_ok {a b:Bool} (h:(!(Bool.xor a b))=true):a=b:=by cases a<;>cases b<;>first | rfl | cases h
theorem capsEq_ok: ∀ {l m:List (Nat×Nat)},capsEq l m=true→l=m
 | [],[],_=>rfl
 | [],_::_,h=>by cases h
 | _::_,[],h=>by cases h
 | a::l,b::m,h=>by
   unfold capsEq at h
   simp only [Bool.and_eq_true,Nat.beq_eq] at h
   rw [capsEq_ok h.2,show a=b from Prod.ext h.1.1 h.1.2]
theorem keq_ok {a b:K} (h:keq a b=true):a=b:=by
 unfold keq at h
 split at h<;>first | rfl | skip
 ·simp only [Bool.and_eq_true,Nat.beq_eq] at h
  rw [h.1.1,h.1.2,neq_ok h.2]
 ·rw [xor_ok h]
 ·rw [Bool.and_eq_true] at h
  rw [kindN_inj h.1,ieq_ok h.2]
 ·simp only [Bool.and_eq_true,Nat.beq_eq] at h
  rw [h.1,capsEq_ok h.2]
 ·simp only [Bool.and_eq_true,Nat.beq_eq] at h
  rw [h.1,h.2]
 ·rw [Nat.eq_of_beq_eq_true h]
 ·simp only [Bool.and_eq_true,Nat.beq_eq] at h
  rw [h.1,h.2]
 ·rw [Bool.and_eq_true] at h
  rw [kindN_inj h.1,Nat.eq_of_beq_eq_true h.2]
 ·rw [meq_ok h]
 ·cases h
theorem keqL_ok: ∀ {l m:List K},keqL l m=true→l=m
 | [],[],_=>rfl
 | [],_::_,h=>by cases h
 | _::_,[],h=>by cases h
 | a::l,b::m,h=>by
   unfold keqL at h
   simp only [Bool.and_eq_true] at h
   rw [keq_ok h.1,keqL_ok h.2]
theorem kaeq0_ok {a b:KA} (h:kaeq0 a b=true):a=b:=by
 unfold kaeq0 at h
 split at h
 ·rw [keq_ok h]
 ·rw [keqL_ok h]
 ·rfl
 ·cases h
theorem kaeqL_ok: ∀ {l m:List KA},kaeqL l m=true→l=m
 | [],[],_=>rfl
 | [],_::_,h=>by cases h
 | _::_,[],h=>by cases h
 | a::l,b::m,h=>by
   unfold kaeqL at h
   simp only [Bool.and_eq_true] at h
   rw [kaeq0_ok h.1,kaeqL_ok h.2]
theorem kaeq_ok {a b:KA} (h:kaeq a b=true):a=b:=by
 unfold kaeq at h
 split at h
 ·rw [kaeqL_ok h]
 ·exact kaeq0_ok h
theorem memEq_ok: ∀ {l m:List (Nat×List K)},memEq l m=true→l=m
 | [],[],_=>rfl
 | [],_::_,h=>by cases h
 | _::_,[],h=>by cases h
 | a::l,b::m,h=>by
   unfold memEq at h
   simp only [Bool.and_eq_true,Nat.beq_eq] at h
   rw [memEq_ok h.2,show a=b from Prod.ext h.1.1 (keqL_ok h.1.2)]
def zeroB (P:Program) (t:Nat) (cs:List K):Bool:=match (P.info? t).bind (·.zero) with
 | some z=>(match cellsK z.cells.toList with | some l=>keqL l cs | none=>false)
 | none=>false
def allI {α:Type} (f:Nat→α→Bool):Nat→List α→Bool
 | _,[]=>true
 | n,a::l=>f n a&&allI f (n+1) l
def tiB (P:Program) (t:Nat) (i:TI):Bool:=
 tszB P t i.agg i.size&&allI (fun j f=>Nat.beq f.2.2 0 || fldB P t j f.1 f.2.1 f.2.2) 0 i.flds&&(match i.arr with | some (l,a,n)=>aryB P t l a n&&bldAB P t n | none=>i.flds.isEmpty || bldSB P t (i.flds.map fun f=>(f.1,f.2.2)))&&
 (match i.int with | some k=>(match P.underlying t with | some (.int k')=>Nat.beq (kindN k) (kindN k') | _=>false) | none=>true)&&(!i.bool || (match P.underlying t with | some .bool=>true | _=>false))&&
 (match i.zero with | some cs=>zeroB P t cs | none=>true)&&(!i.str || (match P.underlying t with | some .string=>true | _=>false))
def tabB (P:Program):TyT→Bool
 | .nil=>true
 | .node k v l r=>tiB P k v&&tabB P l&&tabB P r
theorem tyAt_ok {P:Program} : ∀ {ty:TyT},tabB P ty=true→ ∀ {t:Nat} {i:TI},tyAt ty t=some i→tiB P t i=true
 | .nil,_,t,i,h=>by cases h
 | .node k v l r,hb,t,i,h=>by
   unfold tabB at hb
   simp only [Bool.and_eq_true] at hb
   obtain ⟨⟨h1,h2⟩,h3⟩:=hb
   unfold tyAt at h
   split at h
   ·rename_i hk
    cases h
    rw [←Nat.eq_of_beq_eq_true hk]
    exact h1
   ·split at h
    ·exact tyAt_ok h2 h
    ·exact tyAt_ok h3 h
theorem allI_ok {α:Type} {f:Nat→α→Bool} : ∀ {l:List α} {n:Nat},allI f n l=true→ ∀(j:Nat) a,l[j]?=some a→f (n+j) a=true
 | [],n,_,j,a,h=>by simp at h
 | b::l,n,hb,j,a,h=>by
   unfold allI at hb
   rw [Bool.and_eq_true] at hb
   cases j with
   | zero=>simp at h;subst h;exact hb.1
   | succ j=>
     have:=allI_ok hb.2 j a (by simpa using h)
     rw [show n+1+j=n+(j+1) by omega] at this
     exact this
section
variable {P:Program} {t:Nat} {i:TI}
theorem tiB_tsz (h:tiB P t i=true):Tsz P t i.agg i.size:=by
 unfold tiB at h
 simp only [Bool.and_eq_true] at h
 exact ⟨h.1.1.1.1.1.1⟩
theorem tiB_fld (h:tiB P t i=true) {j:Nat} {f:Nat×Bool×Nat} (hf:i.flds[j]?=some f) (h0:Nat.blt 0 f.2.2=true):Fld P t j f.1 f.2.1 f.2.2:=by
 unfold tiB at h
 simp only [Bool.and_eq_true] at h
 have:=allI_ok h.1.1.1.1.1.2 j f hf
 rw [Nat.zero_add,Bool.or_eq_true] at this
 rcases this with h1 | h1
 ·rw [Nat.eq_of_beq_eq_true h1] at h0;simp at h0
 ·exact ⟨h1⟩
theorem tiB_arr (h:tiB P t i=true) {l n:Nat} {a:Bool} (hf:i.arr=some (l,a,n)):Ary P t l a n∧BldA P t n:=by
 unfold tiB at h
 rw [hf] at h
 simp only [Bool.and_eq_true] at h
 exact ⟨⟨h.1.1.1.1.2.1⟩,⟨h.1.1.1.1.2.2⟩⟩
theorem tiB_bld (h:tiB P t i=true) (hf:i.arr=none) (hn:i.flds.isEmpty=false):BldS P t (i.flds.map fun f=>(f.1,f.2.2)):=by
 unfold tiB at h
 rw [hf] at h
 simp only [Bool.and_eq_true,Bool.or_eq_true] at h
 rcases h.1.1.1.1.2 with h1 | h1
 ·rw [hn] at h1;cases h1
 ·exact ⟨h1⟩
theorem tiB_int (h:tiB P t i=true) {k:IntKind} (hf:i.int=some k):IntT P t k:=by
 unfold tiB at h
 rw [hf] at h
 simp only [Bool.and_eq_true] at h
 have h1:=h.1.1.1.2
 split at h1
 ·rename_i k' hu
  rw [kindN_inj h1]
  exact ⟨hu⟩
 ·cases h1
theorem tiB_bool (h:tiB P t i=true) (hf:i.bool=true):BoolT P t:=by
 unfold tiB at h
 rw [hf] at h
 simp only [Bool.and_eq_true,Bool.or_eq_true] at h
 rcases h.1.1.2 with h1 | h1
 ·cases h1
 ·split at h1
  ·rename_i hu;exact ⟨hu⟩
  ·cases h1
theorem tiB_zero (h:tiB P t i=true) {cs:List K} (hf:i.zero=some cs) (hn:cs.all nlK=true) (E:Env): ∃z,Zer P t z∧z.cells.toList.map C.v=cs.map (cK E):=by
 unfold tiB at h
 rw [hf] at h
 simp only [Bool.and_eq_true] at h
 have h1:=h.1.2
 unfold zeroB at h1
 split at h1
 ·rename_i z hz
  split at h1
  ·rename_i l hl
   have e:=keqL_ok h1
   subst e
   have hm:z.cells.toList.map C.v=l.map (cK E):=(cellsK_ok hl).symm
   refine ⟨z,⟨hz,?_⟩,hm⟩
   have:=nlKs_ok (E:=E) hn
   rw [←hm,List.all_map] at this
   exact this
  ·cases h1
 ·cases h1
end
def TyOk (P:Program) (ty:TyT):Prop:= ∀ {t:Nat} {i:TI},tyAt ty t=some i→tiB P t i=true
def OpOk (P:Program) (X:Ctx) (E:Env) (st:S) (o:Oper) (e:ES):Prop:=
 Sim P X o (slK E st.sl) (zK st.mem) (eK E e)∧rdOk (mK E st.mem) (eK E e).rd∧alOk (zK st.mem) (eK E e).al
section
variable {P:Program} {X:Ctx} {E:Env} {st:S} {dst:Option Tmp} {typ:TypeId} {pos:String} {af:Array Edge} {gd:Option (Nat×Bool)} {ty:TyT}
theorem okP {op:Op} {a:KA} {e:ES} (hd: ∀t,dst=some t→t<X.n) (h:pureE a=some e) (hp:Pure P ⟨dst,op,typ,pos,af,gd⟩ (slK E st.sl) (aK E a)):OpOk P X E st ⟨dst,op,typ,pos,af,gd⟩ e:=by
 cases h
 exact ⟨Sim.of_pure hd hp,fun p hp=>(by cases hp),fun p hp=>(by cases hp)⟩
theorem isNone_ok {α:Type} {o:Option α} (h:o.isNone=true):o=none:=by cases o<;>first | rfl | cases h
theorem layK_map (E:Env): ∀(l cs:List K) (o:Nat),(layK cs o l).map (cK E)=layC (cs.map (cK E)) o (l.map (cK E))
 | [],_,_=>rfl
 | c::r,cs,o=>by
   show (layK (cs.set o c) (o+1) r).map (cK E)=layC ((cs.map (cK E)).set o (cK E c)) (o+1) (r.map (cK E))
   rw [layK_map E r,List.map_set]
theorem fillK_ok {pl:Nat→Option (Nat×Nat)} : ∀ {ps:List (Nat×KA)} {cs l:List K},fillK pl cs ps=some l→fillC pl (cs.map (cK E)) (ps.map fun p=>(p.1,aK E p.2))=some (l.map (cK E))
 | [],cs,l,h=>by cases h;rfl
 | (i,a)::r,cs,l,h=>by
   unfold fillK at h
   show (match pl i with | none=>none | some (off,size)=>(match Nat.beq (acells (aK E a)).length size&&Nat.ble (off+(acells (aK E a)).length) (cs.map (cK E)).length&&(isAggB (aK E a) || Nat.beq size 1) with
    | true=>fillC pl (layC (cs.map (cK E)) off (acells (aK E a))) (r.map fun p:Nat×KA=>(p.1,aK E p.2)) | false=>none))=_
   cases hp:pl i with
   | none=>rw [hp] at h;cases h
   | some os=>
     obtain ⟨off,size⟩:=os
     rw [hp] at h
     simp only at h⊢
     rw [acK_ok,isAggK_ok,List.length_map,List.length_map]
     cases hb:(Nat.beq (acK a).length size&&Nat.ble (off+(acK a).length) cs.length&&(isAggK a || Nat.beq size 1)) with
     | false=>rw [hb] at h;cases h
     | true=>
       rw [hb] at h
       have:=fillK_ok h
       rw [layK_map] at this
       exact this
theorem partsK_ok {sl:T} : ∀ {l:List (Nat×Operand)} {ps:List (Nat×KA)},partsK sl l=some ps→l.map (fun p=>(p.1,evC (slK E sl) p.2))=ps.map fun p=>(p.1,aK E p.2)
 | [],ps,h=>by cases h;rfl
 | (i,x)::r,ps,h=>by
   unfold partsK at h
   split at h
   ·rename_i k hk
    split at h
    ·rename_i l hl
     cases h
     rw [List.map_cons,List.map_cons,evK_ok hk,partsK_ok hl]
    ·cases h
   ·cases h
theorem ptrsK_ok: ∀ {l:List KA} {caps:List (Nat×Nat)},ptrsK l=some caps→l.map (aK E)=caps.map fun p=> .one (.ptr p.1 p.2)
 | [],caps,h=>by cases h;rfl
 | .one (.ptr k o)::r,caps,h=>by
   unfold ptrsK at h
   split at h
   ·rename_i l hl
    cases h
    rw [List.map_cons,List.map_cons,ptrsK_ok hl];rfl
   ·cases h
 | .one (.q _ _ _)::_,_,h=>by cases h
 | .one (.b _)::_,_,h=>by cases h
 | .one (.i _ _)::_,_,h=>by cases h
 | .one .nilP::_,_,h=>by cases h
 | .one .nilS::_,_,h=>by cases h
 | .one .nilF::_,_,h=>by cases h
 | .one .nilI::_,_,h=>by cases h
 | .one .nilM::_,_,h=>by cases h
 | .one .estr::_,_,h=>by cases h
 | .one .und::_,_,h=>by cases h
 | .one (.fn _ _)::_,_,h=>by cases h
 | .one (.ints _)::_,_,h=>by cases h
 | .one (.cnt _ _)::_,_,h=>by cases h
 | .one (.sym _ _)::_,_,h=>by cases h
 | .agg _::_,_,h=>by cases h
 | .tup _::_,_,h=>by cases h
 | .junk::_,_,h=>by cases h
theorem valK_ok {v:Value} {c:K} (h:valK v=some c):cK E c= .v v:=by
 unfold valK at h
 split at h<;>cases h<;>rfl
theorem idx_ok {i:Int} {len n:Nat} (h:idx i len=some n):(decide (0≤i)&&decide (i<len))=true∧i.toNat=n:=by
 cases i with
 | ofNat m=>
   have h:(match Nat.blt m len with | true=>some m | false=>none)=some n:=h
   cases hb:Nat.blt m len with
   | false=>rw [hb] at h;cases h
   | true=>
     rw [hb] at h
     obtain rfl:m=n:=Option.some.inj h
     have:m<len:=by simpa using hb
     refine ⟨?_,rfl⟩
     rw [Bool.and_eq_true,decide_eq_true_eq,decide_eq_true_eq]
     exact ⟨Int.natCast_nonneg m,by exact Int.ofNat_lt.2 this⟩
 | negSucc m=>cases h
end
end Go.Proofs.YteiibidmicgjoaaGreatDoor
