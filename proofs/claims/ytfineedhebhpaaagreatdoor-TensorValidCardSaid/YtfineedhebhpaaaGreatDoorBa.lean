/-
  Several texts in one: Math, Sl, ShM, KnuthM, GcdM, LeadM, RatM, RatO, RatP.
-/
import Derived.WalkKit
import Derived.BigQuiet
import Derived.Deep.QuietTactic
import Derived.Lib.Hide
namespace Go.Proofs.YtfineedhebhpaaaGreatDoor
open Nat renaming le_refl→Yu
def Ai (xs:List Nat):Prop:= ∀x∈xs,x<4294967296
def val:List Nat→Nat
 | []=>0
 | x::xs=>x+4294967296*val xs
def Aq:List Nat→List Nat
 | []=> []
 | x::xs=>if Aq xs= []∧x=0 then [] else x::Aq xs
def toL (n:Nat):List Nat:=if n=0 then [] else n % 4294967296::toL (n/4294967296)
termination_by n
decreasing_by omega
theorem JE (n:Nat):4294967296^(n+1)=4294967296^n*4294967296:=Nat.pow_succ _ _
theorem Ai.take {xs:List Nat} (h:Ai xs) (k:Nat):Ai (xs.take k):=fun x hx=>h x (List.mem_of_mem_take hx)
theorem Ai.drop {xs:List Nat} (h:Ai xs) (k:Nat):Ai (xs.drop k):=fun x hx=>h x (List.mem_of_mem_drop hx)
theorem Ai.getD {xs:List Nat} (h:Ai xs) (k:Nat):xs.getD k 0<4294967296:=by
 by_cases hk:k<xs.length
 ·have:=h xs[k] (List.getElem_mem hk)
  simpa [List.getD,hk] using this
 ·simp [List.getD,List.getElem?_eq_none (Nat.le_of_not_lt hk)]
theorem Ai.tail {x:Nat} {xs:List Nat} (h:Ai (x::xs)):Ai xs:=fun y hy=>h y (List.mem_cons_of_mem _ hy)
theorem Ai.head {x:Nat} {xs:List Nat} (h:Ai (x::xs)):x<4294967296:=h x (List.mem_cons_self)
theorem Ai.nil:Ai []:=fun _ h=>by simp at h
theorem Ai.cons {x:Nat} {xs:List Nat} (h:x<4294967296) (hx:Ai xs):Ai (x::xs):=by
 intro y hy
 rcases List.mem_cons.1 hy with rfl|hy
 ·exact h
 ·exact hx y hy
theorem Ai.set {xs:List Nat} (h:Ai xs) (k v:Nat) (hv:v<4294967296):Ai (xs.set k v):=by
 intro y hy
 rcases List.mem_or_eq_of_mem_set hy with hy|rfl
 ·exact h y hy
 ·exact hv
theorem Ai.append {xs ys:List Nat} (h:Ai xs) (k:Ai ys):Ai (xs++ys):=by
 intro y hy
 rcases List.mem_append.1 hy with hy|hy
 ·exact h y hy
 ·exact k y hy
theorem Ai.replicate (n:Nat):Ai (List.replicate n 0):=by
 intro y hy
 have:=(List.mem_replicate.1 hy).2
 omega
theorem FQ (xs:List Nat):Aq (xs++ [0])=Aq xs:=by
 induction xs with
 | nil=>simp [Aq]
 | cons x xs ih=>simp [Aq,ih]
theorem Jg (xs:List Nat) (x:Nat) (h:x≠0):Aq (xs++ [x])=xs++ [x]:=by
 induction xs with
 | nil=>simp [Aq,h]
 | cons y xs ih=>simp [Aq,ih]
theorem CT (xs:List Nat) (k:Nat) (h:k<xs.length):xs.take (k+1)=xs.take k++ [xs.getD k 0]:=by
 rw [List.take_succ_eq_append_getElem h]
 simp [List.getD,h]
theorem Em (xs:List Nat) (k:Nat) (hk:0<k) (h:k≤xs.length) (h0:xs.getD (k-1) 0=0):Aq (xs.take k)=Aq (xs.take (k-1)):=by
 obtain ⟨j,rfl⟩: ∃j,k=j+1:=⟨k-1,by omega⟩
 rw [Nat.add_sub_cancel] at h0⊢
 rw [CT xs j (by omega),h0]
 exact FQ _
theorem FA (xs:List Nat) (k:Nat) (hk:0<k) (h:k≤xs.length) (h0:xs.getD (k-1) 0≠0):Aq (xs.take k)=xs.take k:=by
 obtain ⟨j,rfl⟩: ∃j,k=j+1:=⟨k-1,by omega⟩
 rw [Nat.add_sub_cancel] at h0
 rw [CT xs j (by omega)]
 exact Jg _ _ h0
theorem A6 (xs:List Nat):xs.take (Aq xs).length=Aq xs:=by
 induction xs with
 | nil=>rfl
 | cons x xs ih=>
   unfold Aq
   split
   ·rfl
   ·simp [ih]
theorem Cb (xs ys:List Nat):val (xs++ys)=val xs+4294967296^xs.length*val ys:=by
 induction xs with
 | nil=>simp [val]
 | cons x xs ih=>
   simp only [List.cons_append,val,ih,List.length_cons,Nat.pow_succ,Nat.mul_add]
   have:4294967296^xs.length*4294967296*val ys=4294967296*(4294967296^xs.length*val ys):=by
    rw [Nat.mul_comm (4294967296^xs.length) 4294967296,Nat.mul_assoc]
   omega
theorem G3 (xs:List Nat) (x:Nat):val (xs++ [x])=val xs+4294967296^xs.length*x:=by
 rw [Cb];simp [val]
theorem Dh (xs:List Nat) (k:Nat) (h:k<xs.length):val (xs.take (k+1))=val (xs.take k)+4294967296^k*xs.getD k 0:=by
 rw [CT xs k h,G3,List.length_take,Nat.min_eq_left (by omega)]
theorem Au (xs:List Nat) (k:Nat):val (xs.take (k+1))=val (xs.take k)+4294967296^k*xs.getD k 0:=by
 by_cases h:k<xs.length
 ·exact Dh xs k h
 ·have h0:xs.getD k 0=0:=by simp [List.getD,List.getElem?_eq_none (Nat.le_of_not_lt h)]
  rw [h0,List.take_of_length_le (by omega),List.take_of_length_le (by omega)]
  simp
theorem BX (O:List Nat) (k v:Nat) (h:k<O.length):val ((O.set k v).take (k+1))=val (O.take k)+4294967296^k*v:=by
 rw [Au,List.take_set_of_le (Yu k)]
 simp [List.getD,h]
theorem H5 {O xs ys:List Nat} {k c x y:Nat} (hk:k<O.length) (hv:val (O.take k)+4294967296^k*c=val (xs.take k)+val (ys.take k)) (hx:x=xs.getD k 0) (hy:y=ys.getD k 0):
  val ((O.set k ((c+x+y) % 4294967296)).take (k+1))+4294967296^(k+1)*((c+x+y)/4294967296)=val (xs.take (k+1))+val (ys.take (k+1)):=by
 rw [BX _ _ _ hk,Au xs,Au ys,←hx,←hy,JE k,Nat.mul_assoc]
 have e:4294967296^k*((c+x+y) % 4294967296)+4294967296^k*(4294967296*((c+x+y)/4294967296))=4294967296^k*c+4294967296^k*x+4294967296^k*y:=by
  rw [←Nat.mul_add,Nat.mod_add_div,Nat.mul_add,Nat.mul_add]
 omega
theorem QT {O xs ys:List Nat} {c:Nat} (hO:O.length=xs.length+1) (hl:ys.length≤xs.length) (hv:val (O.take xs.length)+4294967296^xs.length*c=val (xs.take xs.length)+val (ys.take xs.length)):
  val (O.set xs.length c)=val xs+val ys:=by
 have h1:=BX O xs.length c (by omega)
 rw [List.take_of_length_le (by rw [List.length_set];omega)] at h1
 rw [List.take_of_length_le (Yu xs.length),List.take_of_length_le hl] at hv
 rw [h1,hv]
theorem NH {O O0 ys:List Nat} {i j c x y o:Nat} (hk:i+j<O.length) (hd:O.drop (i+j)=O0.drop (i+j)) (ho:o=O.getD (i+j) 0) (hy:y=ys.getD j 0)
  (hv:val (O.take (i+j))+4294967296^(i+j)*c=val (O0.take (i+j))+4294967296^i*(x*val (ys.take j))):
  val ((O.set (i+j) ((c+(x*y+o)) % 4294967296)).take (i+(j+1)))+4294967296^(i+(j+1))*((c+(x*y+o))/4294967296)=
   val (O0.take (i+(j+1)))+4294967296^i*(x*val (ys.take (j+1))):=by
 have e0:O0.getD (i+j) 0=o:=by
  rw [ho]
  have h1:(O.drop (i+j))[0]?=(O0.drop (i+j))[0]?:=by rw [hd]
  simp only [List.getElem?_drop,Nat.add_zero] at h1
  simp [List.getD,h1]
 rw [←Nat.add_assoc,BX _ _ _ hk,Au O0,Au ys,e0,←hy,JE (i+j),Nat.mul_assoc]
 have e:4294967296^(i+j)*((c+(x*y+o)) % 4294967296)+4294967296^(i+j)*(4294967296*((c+(x*y+o))/4294967296))=4294967296^(i+j)*c+4294967296^(i+j)*(x*y)+4294967296^(i+j)*o:=by
  rw [←Nat.mul_add,Nat.mod_add_div,Nat.mul_add,Nat.mul_add,Nat.add_assoc]
 have e2:4294967296^i*(x*(val (ys.take j)+4294967296^j*y))=4294967296^i*(x*val (ys.take j))+4294967296^(i+j)*(x*y):=by
  rw [Nat.mul_add,Nat.mul_add,Nat.pow_add]
  congr 1
  rw [Nat.mul_left_comm x,Nat.mul_assoc]
 omega
theorem EQ (O:List Nat) (k j v:Nat) (h:k<j):(O.set k v).drop j=O.drop j:=by
 apply List.ext_getElem?
 intro i
 rw [List.getElem?_drop,List.getElem?_drop,List.getElem?_set_ne (by omega)]
theorem Ce {O O0:List Nat} {k:Nat} (h:O.drop k=O0.drop k) (v:Nat):(O.set k v).drop (k+1)=O0.drop (k+1):=by
 rw [EQ _ _ _ _ (by omega),←List.drop_drop,←List.drop_drop,h]
theorem Qp {O O0 xs ys:List Nat} {i c x:Nat} (hk:i+ys.length<O.length) (hx:x=xs.getD i 0)
  (hv:val (O.take (i+ys.length))+4294967296^(i+ys.length)*c=val (O0.take (i+ys.length))+4294967296^i*(x*val (ys.take ys.length)))
  (h0:val (O0.take (i+ys.length))=val (xs.take i)*val ys):
  val ((O.set (i+ys.length) c).take (i+1+ys.length))=val (xs.take (i+1))*val ys:=by
 rw [show i+1+ys.length=(i+ys.length)+1 by omega,BX _ _ _ hk,hv,h0,List.take_of_length_le (Yu _),Au,←hx,Nat.add_mul,Nat.mul_assoc]
theorem DN (xs:List Nat) (k i:Nat) (h:i<k):(xs.take k).getD i 0=xs.getD i 0:=by simp [List.getD,h]
theorem Cm (xs:List Nat) (i:Nat) (h:i<xs.length):xs.drop i=xs.getD i 0::xs.drop (i+1):=by
 rw [List.drop_eq_getElem_cons h]
 simp [List.getD,h]
theorem G7 {P O:List Nat} {i:Nat} (h:P.take (i+1)=O.take (i+1)):P.getD i 0=O.getD i 0:=by
 rw [←DN P (i+1) i (by omega),←DN O (i+1) i (by omega),h]
theorem Ky {P O:List Nat} {i j:Nat} (h:P.take j=O.take j) (hi:i≤j):P.take i=O.take i:=by
 have:=congrArg (List.take i) h
 rwa [List.take_take,List.take_take,Nat.min_eq_left hi] at this
theorem Uw {O P:List Nat} {i k r x d:Nat} (hik:i<k) (hk:k≤O.length) (hl:P.length=O.length) (_hd:0<d) (ht:P.take (i+1)=O.take (i+1)) (hx:x=P.getD i 0)
  (hv:val ((O.take k).drop (i+1))=val ((P.take k).drop (i+1))*d+r):
  val ((O.take k).drop i)=val (((P.set i ((r*4294967296+x)/d)).take k).drop i)*d+(r*4294967296+x) % d:=by
 have e1:(O.take k).drop i=x::(O.take k).drop (i+1):=by
  rw [Cm _ _ (by simp;omega),DN _ _ _ hik,←G7 ht,←hx]
 have e2:((P.set i ((r*4294967296+x)/d)).take k).drop i=((r*4294967296+x)/d)::(P.take k).drop (i+1):=by
  rw [Cm _ _ (by simp;omega),DN _ _ _ hik,List.take_set,EQ _ _ _ _ (by omega)]
  congr 1
  simp [List.getD]
  rw [List.getElem?_set_self (by omega)]
  rfl
 rw [e1,e2]
 simp only [val]
 rw [hv]
 have:=Nat.div_add_mod (r*4294967296+x) d
 generalize (r*4294967296+x)/d=q at*
 generalize (r*4294967296+x) % d=m at*
 generalize val ((P.take k).drop (i+1))=V at*
 rw [Nat.add_mul,Nat.mul_add,Nat.mul_assoc,Nat.mul_comm q d]
 omega
theorem V9 {O P:List Nat} {k r d:Nat} (hr:r<d) (hv:val ((O.take k).drop 0)=val ((P.take k).drop 0)*d+r):val (P.take k)=val (O.take k)/d∧r=val (O.take k) % d:=by
 rw [List.drop_zero,List.drop_zero] at hv
 rw [hv]
 refine ⟨?_,?_⟩
 ·rw [Nat.add_comm,Nat.add_mul_div_right _ _ (by omega),Nat.div_eq_of_lt hr,Nat.zero_add]
 ·rw [Nat.add_comm,Nat.add_mul_mod_self_right,Nat.mod_eq_of_lt hr]
theorem BK (xs:List Nat):val (Aq xs)=val xs:=by
 induction xs with
 | nil=>rfl
 | cons x xs ih=>
   unfold Aq
   split
   ·rename_i h
    rw [h.1] at ih
    simp [val] at ih
    simp [val,h.2,←ih]
   ·simp [val,ih]
theorem AP {xs:List Nat} (h:Ai xs):Ai (Aq xs):=by
 induction xs with
 | nil=>exact h
 | cons x xs ih=>
   unfold Aq
   split
   ·exact Ai.nil
   ·exact Ai.cons h.head (ih h.tail)
theorem AC (xs:List Nat):(Aq xs).length≤xs.length:=by
 induction xs with
 | nil=>exact Yu _
 | cons x xs ih=>
   unfold Aq
   split
   ·simp
   ·simp;omega
theorem Az:toL 0= []:=by unfold toL;simp
theorem Dl (n:Nat) (h:n≠0):toL n=n % 4294967296::toL (n/4294967296):=by
 conv=>lhs;unfold toL
 simp [h]
theorem Ar (n:Nat):val (toL n)=n:=by
 induction n using Nat.strongRecOn with
 | _ n ih=>
   by_cases h:n=0
   ·subst h;rw [Az];rfl
   ·rw [Dl n h,val,ih _ (by omega)]
    omega
theorem BG (n:Nat):Ai (toL n):=by
 induction n using Nat.strongRecOn with
 | _ n ih=>
   by_cases h:n=0
   ·subst h;rw [Az];exact Ai.nil
   ·rw [Dl n h]
    exact Ai.cons (by omega) (ih _ (by omega))
theorem AU (n:Nat):toL n= []↔n=0:=by
 by_cases h:n=0
 ·subst h;simp [Az]
 ·simp [Dl n h,h]
theorem BY {xs:List Nat} (h:Ai xs):toL (val xs)=Aq xs:=by
 induction xs with
 | nil=>simp [val,Aq,Az]
 | cons x xs ih=>
   have hx:=h.head
   have ih':=ih h.tail
   unfold Aq
   by_cases hz:Aq xs= []∧x=0
   ·rw [if_pos hz]
    have h0:val xs=0:=by rw [←BK,hz.1];rfl
    simp [val,hz.2,h0,Az]
   ·rw [if_neg hz]
    have hv:val (x::xs)≠0:=by
     intro e
     simp only [val] at e
     have h1:val xs=0:=by omega
     have h2:x=0:=by omega
     apply hz
     refine ⟨?_,h2⟩
     rw [←ih',h1,Az]
    rw [Dl _ hv,←ih']
    simp only [val]
    congr 1
    ·omega
    ·congr 1;omega
theorem Ca (n:Nat):Aq (toL n)=toL n:=by
 have:=BY (BG n)
 rw [Ar] at this
 exact this.symm
theorem Cf {xs:List Nat} (h:Ai xs):val xs<4294967296^xs.length:=by
 induction xs with
 | nil=>simp [val]
 | cons x xs ih=>
   have h1:=ih h.tail
   have h2:=h.head
   simp only [val,List.length_cons,Nat.pow_succ]
   have:4294967296*val xs+4294967296≤4294967296^xs.length*4294967296:=by
    have:=Nat.mul_le_mul_right 4294967296 (show val xs+1≤4294967296^xs.length from h1)
    omega
   omega
theorem Al (n k:Nat) (h:n<4294967296^k):(toL n).length≤k:=by
 induction k generalizing n with
 | zero=>
   have:n=0:=by simpa using h
   subst this
   simp [Az]
 | succ k ih=>
   by_cases h0:n=0
   ·subst h0;simp [Az]
   ·rw [Dl n h0]
    simp only [List.length_cons]
    have:n/4294967296<4294967296^k:=by
     rw [Nat.pow_succ] at h
     exact Nat.div_lt_of_lt_mul (by rw [Nat.mul_comm];exact h)
    have:=ih _ this
    omega
theorem Cw (n:Nat):n<4294967296^(toL n).length:=by
 have:=Cf (BG n)
 rwa [Ar] at this
theorem ML (n:Nat) (h:n≠0):4294967296^((toL n).length-1)≤n:=by
 induction n using Nat.strongRecOn with
 | _ n ih=>
   rw [Dl n h]
   simp only [List.length_cons,Nat.add_sub_cancel]
   by_cases h0:n/4294967296=0
   ·rw [h0,Az];simp;omega
   ·have:=ih _ (by omega) h0
    have hl:0<(toL (n/4294967296)).length:=by
     rw [Dl _ h0];simp
    obtain ⟨j,hj⟩: ∃j,(toL (n/4294967296)).length=j+1:=⟨_,(Nat.succ_pred_eq_of_pos hl).symm⟩
    rw [hj] at this⊢
    rw [Nat.add_sub_cancel] at this
    rw [Nat.pow_succ]
    exact Nat.le_trans (Nat.mul_le_mul_right 4294967296 this) (Nat.div_mul_le_self n 4294967296)
theorem AM (m n:Nat) (h:m≤n):(toL m).length≤(toL n).length:=Al m _ (Nat.lt_of_le_of_lt h (Cw n))
theorem JN (m n:Nat):(toL (m+n)).length≤(toL m).length+(toL n).length+1:=by
 apply Al
 have h1:=Cw m
 have h2:=Cw n
 have p1:4294967296^(toL m).length≤4294967296^((toL m).length+(toL n).length):=Nat.pow_le_pow_right (by omega) (by omega)
 have p2:4294967296^(toL n).length≤4294967296^((toL m).length+(toL n).length):=Nat.pow_le_pow_right (by omega) (by omega)
 refine Nat.lt_of_lt_of_le ?_ (Nat.le_of_eq (JE ((toL m).length+(toL n).length)).symm)
 generalize 4294967296^((toL m).length+(toL n).length)=X at*
 generalize 4294967296^(toL m).length=Y at*
 generalize 4294967296^(toL n).length=Z at*
 omega
theorem Es (m n:Nat):(toL (m*n)).length≤(toL m).length+(toL n).length:=by
 apply Al
 rw [Nat.pow_add]
 exact Nat.mul_lt_mul'' (Cw m) (Cw n)
theorem DT (n:Nat):val (List.replicate n 0)=0:=by
 induction n with
 | zero=>rfl
 | succ n ih=>simp [List.replicate_succ,val,ih]
def BZ (m n:Nat):Int:=if m<n then-1 else if n<m then 1 else 0
theorem CY {m n:Nat} (h:m<n):BZ m n= -1:=if_pos h
theorem C4 {m n:Nat} (h:n<m):BZ m n=1:=by unfold BZ;rw [if_neg (by omega),if_pos h]
theorem Ed {m n:Nat} (h:m=n):BZ m n=0:=by unfold BZ;rw [if_neg (by omega),if_neg (by omega)]
theorem Cq {xs ys:List Nat} (hx:Ai xs) (hy:Ai ys) (h:(Aq xs).length<(Aq ys).length):val xs<val ys:=by
 rw [←BY hx,←BY hy] at h
 rcases Nat.lt_or_ge (val xs) (val ys) with h1|h1
 ·exact h1
 ·have:=AM _ _ h1
  omega
theorem Qr {X Y:List Nat} {i:Nat} (hx:Ai X) (hd:X.drop (i+1)=Y.drop (i+1)) (hl:X.length=Y.length) (hi:i<X.length) (h:X.getD i 0<Y.getD i 0):val X<val Y:=by
 have e1:val X=val (X.take (i+1))+4294967296^(i+1)*val (X.drop (i+1)):=by
  conv=>lhs;rw [←List.take_append_drop (i+1) X,Cb,List.length_take,Nat.min_eq_left (by omega)]
 have e2:val Y=val (Y.take (i+1))+4294967296^(i+1)*val (Y.drop (i+1)):=by
  conv=>lhs;rw [←List.take_append_drop (i+1) Y,Cb,List.length_take,Nat.min_eq_left (by omega)]
 rw [e1,e2,hd,Au,Au]
 have h1:=Cf (hx.take i)
 rw [List.length_take,Nat.min_eq_left (by omega)] at h1
 have h2:=Nat.mul_le_mul_left (4294967296^i) (show X.getD i 0+1≤Y.getD i 0 from h)
 rw [Nat.mul_add,Nat.mul_one] at h2
 omega
theorem FW {X Y:List Nat} (h:X.drop 0=Y.drop 0):val X=val Y:=by
 rw [List.drop_zero,List.drop_zero] at h;rw [h]
open Go.RowKit
def Py (x:Nat):Value:= .int .u32 (x:Int)
def Sl (w:World) (ao:Option Addr) (xs:List Nat):Prop:=
 xs≠ []→ ∃b off,ao=some ⟨b,off,none⟩∧ ∀i,i<xs.length→w.cell? ⟨b,off+i,none⟩=some (.int .u32 (xs.getD i 0:Nat))
def Rd (w:World) (v:Value) (xs:List Nat):Prop:=
 ∃ao cap,v= .slice ao xs.length cap∧xs.length≤cap∧cap≤maxLen∧Ai xs∧Sl w ao xs
abbrev Kp (w w':World):Prop:=Below w.heap.size w w'
theorem Kp.tr {a b c:World} (h:Kp a b) (k:Kp b c):Kp a c:=h.trans (k.mono h.size)
theorem Sl.cell {w:World} {ao:Option Addr} {xs:List Nat} (h:Sl w ao xs) (hne:0<xs.length):
  ∃b off,ao=some ⟨b,off,none⟩∧ ∀i,i<xs.length→w.cell? ⟨b,off+i,none⟩=some (.int .u32 (xs.getD i 0:Nat)):=
 h (by intro e;simp [e] at hne)
theorem Sl.kp {w w':World} {ao:Option Addr} {xs:List Nat} (h:Sl w ao xs) (hb:Kp w w'):Sl w' ao xs:=by
 intro hne
 obtain ⟨b,off,rfl,hc⟩:=h hne
 refine ⟨b,off,rfl,fun i hi=>?_⟩
 have h1:=hc i hi
 have hlt:=World.block_lt_of_cell? w _ h1
 rw [hb.cell (p:=⟨b,off+i,none⟩) hlt]
 exact h1
theorem Rd.kp {w w':World} {v:Value} {xs:List Nat} (h:Rd w v xs) (hb:Kp w w'):Rd w' v xs:=by
 obtain ⟨ao,cap,rfl,h1,h2,h3,h4⟩:=h
 exact ⟨ao,cap,rfl,h1,h2,h3,h4.kp hb⟩
theorem Sl.take {w:World} {ao:Option Addr} {xs:List Nat} (h:Sl w ao xs) (k:Nat):Sl w ao (xs.take k):=by
 intro hne
 obtain ⟨b,off,rfl,hc⟩:=h (by intro e;simp [e] at hne)
 refine ⟨b,off,rfl,fun i hi=>?_⟩
 have:i<xs.length∧i<k:=by simp at hi;omega
 rw [hc i this.1]
 simp [List.getD,this.2]
def Src (w:World) (ao:Option Addr) (cs:List Value):Prop:=0<cs.length→ ∃a,ao=some a∧ ∀j u,cs[j]?=some u→w.cell? (a.add j)=some u
section
variable {P:Program} (w:World)
theorem Jt (base:Nat) (t ty e:TypeId) (i:TypeInfo) (z:Value) (size bytes:Nat) (ht:P.underlying t=some (.slice e)) (hi:P.info? e=some i) (hz:i.zero=some z)
  (hsize:i.size=size) (hby:i.bytes=bytes) (hzs:z.cells.size=size) (hsz:0<size)
  (v:Value) (n:Nat) (xs:List Value) (hown:w.ownsRow base e size v n xs)
  (ao:Option Addr) (m c:Nat) (news:List Value) (hl:news.length=m*size)
  (hnews:Src w ao news) (h1: ∀u∈news,u.oneCell'=true)
  (h63:n+m≤maxLen) (hbytes:(n+m)*bytes≤140737488355328) (hbase:base≤w.heap.size):
  ∃v' w',(Builtin.append_ #[t,t] ty #[v,.slice ao m c]).run P w= .ok v' w'∧w'.ownsRow base e size v' (n+m) (xs++news)∧w.grownBy w' v.ownBlock∧
   (v'= .slice none 0 0↔v= .slice none 0 0∧m=0):=by
 by_cases hm:m=0
 ·subst hm
  have hn:news= []:=List.eq_nil_of_length_eq_zero (by simpa using hl)
  subst hn
  cases ao with
  | some a=>exact run_append_own w base t ty e i z size bytes ht hi hz hsize hby hzs hsz v n xs hown a 0 c [] hl (by simp) h1 h63 hbytes hbase
  | none=>
    refine ⟨v,w,?_,by simpa using hown,⟨rfl,rfl,rfl,Yu _,fun _ _ _=>rfl⟩,by simp⟩
    rcases hown.2 with ⟨rfl,rfl⟩|⟨g,cap,cur,rfl,_,_,hnc,_⟩
    ·simp [Builtin.append_,run_underlying ht,sizeOf,typeInfo,hi,Builtin.lenOf,Builtin.firstCells]
    ·simp [Builtin.append_,run_underlying ht,sizeOf,typeInfo,hi,Builtin.lenOf,Builtin.firstCells,hnc,storeCells]
 ·obtain ⟨a,rfl,hc⟩:=hnews (by rw [hl];exact Nat.mul_pos (by omega) hsz)
  exact run_append_own w base t ty e i z size bytes ht hi hz hsize hby hzs hsz v n xs hown a m c news hl hc h1 h63 hbytes hbase
theorem AJ {ops:Array Oper} {rest:List Oper} {o:Oper} {a:Act} {Q:Exit→Act→World→Prop} (hgd:o.guard=none) (s x:Operand) (t:TypeId)
  (ho:o.op= .call { callee:= .builtin .append,args:= #[s,x],argTypes:= #[t,t] })
  (base:Nat) (e:TypeId) (i:TypeInfo) (z:Value) (size bytes:Nat) (ht:P.underlying t=some (.slice e)) (hi:P.info? e=some i) (hz:i.zero=some z)
  (hsize:i.size=size) (hby:i.bytes=bytes) (hzs:z.cells.size=size) (hsz:0<size)
  (v:Value) (n:Nat) (xs:List Value) (hs:a.eval s=v) (hown:w.ownsRow base e size v n xs)
  (ao:Option Addr) (m c:Nat) (news:List Value) (hx:a.eval x= .slice ao m c) (hl:news.length=m*size)
  (hnews:Src w ao news) (h1: ∀u∈news,u.oneCell'=true)
  (h63:n+m≤maxLen) (hbytes:(n+m)*bytes≤140737488355328) (hbase:base≤w.heap.size)
  (h: ∀v' w',w'.ownsRow base e size v' (n+m) (xs++news)→w.grownBy w' v.ownBlock→(v'= .slice none 0 0↔v= .slice none 0 0∧m=0)→wpList P ops Q rest (a.put o.dst v') w'):wpList P ops Q (o::rest) a w:=by
 refine wpList_plain hgd fun K hK=>?_
 obtain ⟨v',w',hr,h2,h3,h4⟩:=Jt (P:=P) w base t o.type e i z size bytes ht hi hz hsize hby hzs hsz v n xs hown ao m c news hl hnews h1 h63 hbytes hbase
 unfold Oper.wp execOp
 simp only [ho,resolve,invoke,builtin,Sem.run_bind,Sem.run_pure,Result.andThen_ok,List.map_toArray,List.map_cons,List.map_nil,hs,hx,hr]
 exact hK _ _ (h v' w' h2 h3 h4)
end
def cellsOf (xs:List Nat):List Value:=xs.map Py
theorem Du (xs:List Nat):(cellsOf xs).length=xs.length:=by simp [cellsOf]
theorem ES (xs:List Nat) (i:Nat) (h:i<xs.length):(cellsOf xs)[i]?=some (Py (xs.getD i 0)):=by
 simp [cellsOf,List.getD,h]
theorem A9 (xs:List Nat): ∀u∈cellsOf xs,u.oneCell'=true:=by
 intro u hu
 obtain ⟨_,_,rfl⟩:=List.mem_map.1 hu
 rfl
theorem Sl.news {w:World} {ao:Option Addr} {xs:List Nat} (h:Sl w ao xs):Src w ao (cellsOf xs):=by
 intro hp
 obtain ⟨b,off,rfl,hc⟩:=h.cell (by simpa [cellsOf] using hp)
 refine ⟨_,rfl,fun j u hu=>?_⟩
 have hj:j<xs.length:=by
  have:=(List.getElem?_eq_some_iff.1 hu).1
  simpa [cellsOf] using this
 rw [Addr.add_lit,hc j hj]
 rw [ES xs j hj] at hu
 exact hu
theorem Rd.owned {w:World} {base:Nat} {e:TypeId} {v:Value} {n:Nat} {xs:List Nat} (h:w.ownsRow base e 1 v n (cellsOf xs)) (hx:Ai xs):Rd w v xs:=by
 have hn:xs.length=n:=by have:=h.1;simp [cellsOf] at this;exact this
 subst hn
 rcases h.2 with ⟨rfl,h0⟩|⟨g,cap,cur,rfl,_,hg,hnc,hcm,hcs,htake⟩
 ·have:xs= []:=List.eq_nil_of_length_eq_zero h0
  subst this
  exact ⟨none,0,rfl,Yu _,Nat.zero_le _,hx,fun h=>absurd rfl h⟩
 ·refine ⟨_,cap,rfl,hnc,hcm,hx,fun _=>⟨g,0,rfl,fun i hi=>?_⟩⟩
  have:=h.cellAt i (by omega)
  rw [Nat.zero_add,this,ES xs i hi]
  rfl
def Own (w:World) (e:TypeId) (g:Nat) (xs:List Nat):Prop:=w.heap[g]?=some (.cells (cellsOf xs).toArray e (0,0))
theorem Own.cell {w:World} {e:TypeId} {g:Nat} {xs:List Nat} (h:Own w e g xs) (j:Nat) (hj:j<xs.length):w.cell? ⟨g,j,none⟩=some (.int .u32 (xs.getD j 0:Nat)):=by
 rw [cell_of_row w g j _ e (0,0) h]
 simpa [Py] using ES xs j hj
theorem Own.frozen {w:World} {e:TypeId} {g:Nat} {xs:List Nat} (h:Own w e g xs) (j:Nat):w.frozen? ⟨g,j,none⟩=false:=frozen_of_row w g j _ e h
theorem Own.set {w:World} {e:TypeId} {g:Nat} {xs:List Nat} (h:Own w e g xs) (j v:Nat):Own (w.setCell ⟨g,j,none⟩ (.int .u32 (v:Nat))) e g (xs.set j v):=by
 have:=heap_setCell_same w g j _ e (.int .u32 (v:Nat)) h
 unfold Own
 rw [this]
 congr 2
 apply Array.ext'
 simp [cellsOf,List.map_set,Py]
theorem Own.kp {w w':World} {e:TypeId} {g:Nat} {xs:List Nat} (h:Own w e g xs) (hb:Kp w w'):Own w' e g xs:=by
 unfold Own
 rw [hb.block g (Array.getElem?_eq_some_iff.1 h).1]
 exact h
theorem Own.lt {w:World} {e:TypeId} {g:Nat} {xs:List Nat} (h:Own w e g xs):g<w.heap.size:=(Array.getElem?_eq_some_iff.1 h).1
theorem Own.of_make {w:World} {base:Nat} {e:TypeId} {g n:Nat} (h:w.ownsRow base e 1 (.slice (some ⟨g,0,none⟩) n n) n (madeCells #[.int .u32 0] (n*1)).toList):Own w e g (List.replicate n 0):=by
 rcases h.2 with ⟨h',_⟩|⟨g',cap',cur,h',hb,hg,hnc,hcm,hcs,htake⟩
 ·simp at h'
 ·simp only [Value.slice.injEq,Option.some.injEq,Addr.mk.injEq,and_true,true_and] at h'
  obtain ⟨rfl,rfl⟩:=h'
  unfold Own
  rw [hg]
  congr 2
  apply Array.ext'
  rw [List.take_of_length_le (by simp [hcs]),Nat.mul_one,toList_madeCells_one] at htake
  rw [htake]
  simp [cellsOf,Py]
theorem Own.rd {w:World} {e:TypeId} {g:Nat} {xs:List Nat} (h:Own w e g xs) (hx:Ai xs) (k:Nat) (hk:k≤xs.length) (cap:Nat) (hc:k≤cap) (hm:cap≤maxLen):Rd w (.slice (some ⟨g,0,none⟩) k cap) (xs.take k):=by
 have e1:(xs.take k).length=k:=by simp;omega
 refine ⟨some ⟨g,0,none⟩,cap,by rw [e1],by omega,hm,hx.take k,Sl.take (fun _=>⟨g,0,rfl,fun i hi=>?_⟩) k⟩
 rw [Nat.zero_add]
 exact h.cell i hi
theorem Own.sl {w:World} {e:TypeId} {g:Nat} {xs:List Nat} (h:Own w e g xs):Sl w (some ⟨g,0,none⟩) xs:=fun _=>⟨g,0,rfl,fun i hi=>by rw [Nat.zero_add];exact h.cell i hi⟩
theorem Own.mag {w:World} {e:TypeId} {g:Nat} {xs:List Nat} (h:Own w e g xs) (hx:Ai xs) (n cap:Nat) (hn:val xs=n) (hc:xs.length≤cap) (hm:cap≤maxLen):
  Rd w (.slice (some ⟨g,0,none⟩) (Aq xs).length cap) (toL n):=by
 subst hn
 rw [BY hx]
 refine ⟨_,cap,rfl,Nat.le_trans (AC xs) hc,hm,AP hx,?_⟩
 rw [←A6 xs]
 exact h.sl.take _
theorem Kp.setCell {w0 w:World} (h:Kp w0 w) {a:Addr} (ha:w0.heap.size≤a.block) (v:Value):Kp w0 (w.setCell a v):=Below.setCell h ha v
theorem Sl.at {w:World} {ao:Option Addr} {xs:List Nat} (h:Sl w ao xs) (hx:Ai xs) (k:Nat) (hk:k<xs.length):
  ∃b off x,ao=some ⟨b,off,none⟩∧w.cell? ⟨b,off+k,none⟩=some (.int .u32 (x:Nat))∧x<4294967296∧Hid (x=xs.getD k 0):=by
 obtain ⟨b,off,rfl,hc⟩:=h.cell (by omega)
 exact ⟨b,off,_,rfl,hc k hk,hx.getD k,rfl⟩
theorem Own.at {w:World} {e:TypeId} {g:Nat} {xs:List Nat} (h:Own w e g xs) (hx:Ai xs) (k:Nat) (hk:k<xs.length):
  ∃x,w.cell? ⟨g,k,none⟩=some (.int .u32 (x:Nat))∧x<4294967296∧Hid (x=xs.getD k 0):=
 ⟨_,h.cell k hk,hx.getD k,rfl⟩
theorem XX {c x y o:Nat} (hc:c<4294967296) (hx:x<4294967296) (hy:y<4294967296) (ho:o<4294967296):
  IntKind.u64.wrap ((c:Int)+IntKind.u64.wrap (IntKind.u64.wrap ((x:Int)*(y:Int))+(o:Int)))=((c+(x*y+o):Nat):Int)∧c+(x*y+o)≤18446744073709551615:=by
 have h:x*y≤4294967295*4294967295:=Nat.mul_le_mul (by omega) (by omega)
 rw [←Int.natCast_mul]
 generalize x*y=p at*
 refine ⟨?_,by omega⟩
 rw [IntWalk.u64_in (p:Int) (by omega),IntWalk.u64_in ((p:Int)+o) (by omega),IntWalk.u64_in _ (by omega)]
 omega
theorem Gb {n:Nat} (hn:n<32): ∃q,4294967296=2^n*q∧0<2^n∧2^n<4294967296:=by
 refine ⟨2^(32-n),?_,Nat.pow_pos (by omega),?_⟩
 ·rw [←Nat.pow_add,show n+(32-n)=32 by omega]
 ·exact Nat.pow_lt_pow_of_lt (by omega) hn
theorem JI {c x n:Nat} (hc:c<2^n):c ||| x*2^n=c+x*2^n:=by
 rw [Nat.or_comm,Nat.mul_comm,←Nat.two_pow_add_eq_or_of_lt hc x,Nat.add_comm]
theorem Pc {D xs:List Nat} {k c x p:Nat} (hk:k<D.length) (hv:val (D.take k)+4294967296^k*c=val (xs.take k)*p) (hx:x=xs.getD k 0):
  val ((D.set k ((c+x*p) % 4294967296)).take (k+1))+4294967296^(k+1)*((c+x*p)/4294967296)=val (xs.take (k+1))*p:=by
 rw [BX _ _ _ hk,Au xs,←hx,JE k,Nat.mul_assoc,Nat.add_mul]
 have e:4294967296^k*((c+x*p) % 4294967296)+4294967296^k*(4294967296*((c+x*p)/4294967296))=4294967296^k*c+4294967296^k*x*p:=by
  rw [←Nat.mul_add,Nat.mod_add_div,Nat.mul_add,Nat.mul_assoc]
 omega
theorem F6 {c x p:Nat} (hc:c<p) (hx:x<4294967296):(c+x*p)/4294967296<p∧c+x*p<4294967296*p:=by
 have h1:(x+1)*p≤4294967296*p:=Nat.mul_le_mul_right _ hx
 rw [Nat.add_mul,Nat.one_mul] at h1
 have h2:c+x*p<4294967296*p:=by omega
 exact ⟨Nat.div_lt_of_lt_mul h2,h2⟩
theorem RV {D xs:List Nat} {c p:Nat} (hk:xs.length<D.length) (hv:val (D.take xs.length)+4294967296^xs.length*c=val (xs.take xs.length)*p):
  val ((D.set xs.length c).take (xs.length+1))=val xs*p:=by
 rw [BX _ _ _ hk,hv,List.take_of_length_le (Yu _)]
theorem ER (P:List Nat) (o k d:Nat):(P.set (o+k) d).drop o=(P.drop o).set k d:=by
 apply List.ext_getElem?
 intro i
 rw [List.getElem?_drop,List.getElem?_set,List.getElem?_set,List.getElem?_drop,List.length_drop]
 by_cases h:k=i
 ·subst h
  by_cases h2:o+k<P.length
  ·simp [h2,show k<P.length-o by omega]
  ·simp [h2,show ¬k<P.length-o by omega]
 ·simp [h]
def E3 (n:Nat):List Nat→List Nat
 | []=> []
 | x::xs=>(x+4294967296*xs.headD 0)/2^n % 4294967296::E3 n xs
theorem Hj (n:Nat) (xs:List Nat):(E3 n xs).length=xs.length:=by
 induction xs with
 | nil=>rfl
 | cons x xs ih=>simp [E3,ih]
theorem Px (n:Nat) (xs:List Nat):Ai (E3 n xs):=by
 induction xs with
 | nil=>exact Ai.nil
 | cons x xs ih=>exact Ai.cons (Nat.mod_lt _ (by omega)) ih
theorem PD (xs:List Nat):xs.headD 0=xs.getD 0 0:=by cases xs<;>rfl
theorem KT (n:Nat) (xs:List Nat) (i:Nat) (h:i<xs.length):(E3 n xs).getD i 0=(xs.getD i 0+4294967296*xs.getD (i+1) 0)/2^n % 4294967296:=by
 induction xs generalizing i with
 | nil=>simp at h
 | cons x xs ih=>
   cases i with
   | zero=>simp only [E3,List.getD_cons_zero,List.getD_cons_succ,PD]
   | succ i=>
     simp only [E3,List.getD_cons_succ]
     exact ih i (by simpa using h)
theorem Mv {n:Nat} (hn:n<32) (xs:List Nat):val xs % 2^n=xs.headD 0 % 2^n:=by
 obtain ⟨q,hq,_,_⟩:=Gb hn
 cases xs with
 | nil=>simp [val]
 | cons x xs=>
   simp only [val,List.headD_cons]
   rw [hq,Nat.mul_assoc,Nat.add_mul_mod_self_left]
theorem Mw {n:Nat} (hn:n<32) {xs:List Nat} (hx:Ai xs):val (E3 n xs)=val xs/2^n:=by
 obtain ⟨q,hq,hp,_⟩:=Gb hn
 induction xs with
 | nil=>simp [E3,val]
 | cons x xs ih=>
   have ih':=ih hx.tail
   have hx0:=hx.head
   have hm:=Mv hn xs
   simp only [E3,val]
   rw [ih']
   have hr:val xs=2^n*(val xs/2^n)+xs.headD 0 % 2^n:=by rw [←hm];exact (Nat.div_add_mod _ _).symm
   have hh:xs.headD 0=2^n*(xs.headD 0/2^n)+xs.headD 0 % 2^n:=(Nat.div_add_mod _ _).symm
   have hlt:xs.headD 0 % 2^n<2^n:=Nat.mod_lt _ hp
   generalize xs.headD 0 % 2^n=r at*
   generalize xs.headD 0/2^n=s at*
   generalize val xs/2^n=Q at*
   have e1:x+4294967296*xs.headD 0=(x+4294967296*r)+2^n*(4294967296*s):=by
    rw [hh,Nat.mul_add,Nat.mul_left_comm]
    omega
   have e2:x+4294967296*val xs=(x+4294967296*r)+2^n*(4294967296*Q):=by
    rw [hr,Nat.mul_add,Nat.mul_left_comm]
    omega
   rw [e1,e2,Nat.add_mul_div_left _ _ hp,Nat.add_mul_div_left _ _ hp,Nat.add_mul_mod_self_left]
   have h3:(x+4294967296*r)/2^n<4294967296:=by
    apply Nat.div_lt_of_lt_mul
    have:=Nat.mul_le_mul_left 4294967296 (show r+1≤2^n from hlt)
    rw [Nat.mul_add,Nat.mul_comm (2^n)] at*
    omega
   rw [Nat.mod_eq_of_lt h3]
theorem NO {P O:List Nat} {n k L:Nat} (hk:k<L) (hL:L≤O.length) (hl:P.length=O.length) (ht:P.take k=(E3 n (O.take L)).take k) {d:Nat}
  (hd:d=(O.getD k 0+4294967296*(O.take L).getD (k+1) 0)/2^n % 4294967296):(P.set k d).take (k+1)=(E3 n (O.take L)).take (k+1):=by
 have hl2:(E3 n (O.take L)).length=L:=by rw [Hj,List.length_take,Nat.min_eq_left hL]
 rw [CT _ _ (by rw [List.length_set];omega),CT (E3 n (O.take L)) k (by omega),List.take_set_of_le (Yu k),ht,KT _ _ _ (by rw [List.length_take];omega),DN _ _ _ hk,←hd]
 congr 2
 simp [List.getD,show k<P.length by omega]
theorem Kn (O:List Nat) (L k:Nat) (h: ¬k<L):(O.take L).getD k 0=0:=by
 simp [List.getD,List.getElem?_take,h]
theorem Ig (n:Nat):2^n=4294967296^(n/32)*2^(n % 32):=by
 have:(4294967296:Nat)=2^32:=rfl
 rw [this,←Nat.pow_mul,←Nat.pow_add,Nat.div_add_mod]
theorem CF {xs:List Nat} (hx:Ai xs) (k:Nat):val (xs.drop k)=val xs/4294967296^k:=by
 have h:val xs=val (xs.take k)+4294967296^(xs.take k).length*val (xs.drop k):=by
  conv=>lhs;rw [←List.take_append_drop k xs,Cb]
 rcases Nat.lt_or_ge k xs.length with hk|hk
 ·rw [List.length_take,Nat.min_eq_left (by omega)] at h
  have h2:=Cf (hx.take k)
  rw [List.length_take,Nat.min_eq_left (by omega)] at h2
  rw [h,Nat.add_mul_div_left _ _ (Nat.pow_pos (by omega)),Nat.div_eq_of_lt h2,Nat.zero_add]
 ·rw [List.drop_of_length_le hk]
  have h3:=Cf hx
  have h4:4294967296^xs.length≤4294967296^k:=Nat.pow_le_pow_right (by omega) hk
  rw [Nat.div_eq_of_lt (by omega)]
  rfl
theorem E6 (m n:Nat):m/2^n=m/4294967296^(n/32)/2^(n % 32):=by
 rw [Ig n,Nat.div_div_eq_div_mul]
theorem E9 (k:Nat) (xs:List Nat):val (List.replicate k 0++xs)=4294967296^k*val xs:=by
 rw [Cb,DT,List.length_replicate,Nat.zero_add]
theorem XS {n:Nat} (h:1≤n):(4294967296:Nat)^n=4294967296^(n-1)*4294967296:=by
 obtain ⟨k,rfl⟩: ∃k,n=k+1:=⟨n-1,by omega⟩
 exact Nat.pow_succ _ _
theorem PU {V:List Nat} (hV:Ai V) (h:2≤V.length):
  ∃l,l<4294967296^(V.length-2)∧val V=(V.getD (V.length-1) 0*4294967296+V.getD (V.length-2) 0)*4294967296^(V.length-2)+l:=by
 obtain ⟨n,hn⟩: ∃n,V.length=n+2:=⟨V.length-2,by omega⟩
 have h1:=Dh V (n+1) (by omega)
 have h2:=Dh V n (by omega)
 rw [List.take_of_length_le (by omega)] at h1
 have h3:=Cf (hV.take n)
 rw [List.length_take,Nat.min_eq_left (by omega)] at h3
 rw [hn,show n+2-2=n by omega,show n+2-1=n+1 by omega]
 refine ⟨val (V.take n),h3,?_⟩
 rw [h1,h2,Nat.pow_succ,Nat.add_mul,Nat.mul_comm (V.getD n 0),Nat.mul_assoc (4294967296^n),Nat.mul_comm (V.getD (n+1) 0) 4294967296,Nat.mul_comm _ (4294967296^n)]
 omega
theorem NS {N D W V l v K q g:Nat} (hV:V=D*K+v) (hv:v<K) (hW:W=N*K+l) (hl:l<K) (hD:2147483648≤D/4294967296) (hq:q=W/V) (hqB:q<4294967296) (hg:g=min (N/D) 4294967295):
  q≤g∧g≤q+1:=by
 have hD0:0<D:=by
  rcases Nat.eq_zero_or_pos D with h|h
  ·rw [h] at hD;omega
  ·exact h
 have hK0:0<K:=by omega
 have hV0:0<V:=by rw [hV];exact Nat.lt_of_lt_of_le (Nat.mul_pos hD0 hK0) (Nat.le_add_right _ _)
 have hqV:q*V≤W:=by rw [hq,Nat.mul_comm];exact Nat.mul_div_le _ _
 constructor
 ·have h1:q*D≤N:=by
   have e1:q*D*K≤q*V:=by rw [hV,Nat.mul_add,←Nat.mul_assoc];exact Nat.le_add_right _ _
   have e2:q*D*K<(N+1)*K:=by rw [Nat.add_mul,Nat.one_mul];omega
   exact Nat.le_of_lt_succ (Nat.lt_of_mul_lt_mul_right e2)
  have h2:q≤N/D:=(Nat.le_div_iff_mul_le hD0).2 h1
  omega
 ·have h1:g*D≤N:=by
   have:g≤N/D:=by rw [hg];exact Nat.min_le_left _ _
   exact Nat.le_trans (Nat.mul_le_mul_right _ this) (Nat.div_mul_le_self _ _)
  have hg2:g≤4294967295:=by rw [hg];exact Nat.min_le_right _ _
  have h2:g*V≤W+V:=by
   have e1:g*V=g*D*K+g*v:=by rw [hV,Nat.mul_add,←Nat.mul_assoc]
   have e2:g*D*K≤N*K:=Nat.mul_le_mul_right _ h1
   have e3:g*v≤4294967295*v:=Nat.mul_le_mul_right _ hg2
   have e4:4294967295*K≤D*K:=Nat.mul_le_mul_right _ (by omega)
   have e5:4294967295*v≤4294967295*K:=Nat.mul_le_mul_left _ (Nat.le_of_lt hv)
   rw [e1,hW]
   omega
  rcases Nat.eq_zero_or_pos g with h|h
  ·omega
  ·have h3:(g-1)*V≤W:=by
    rw [Nat.sub_mul,Nat.one_mul]
    omega
   have h4:g-1≤q:=by rw [hq];exact (Nat.le_div_iff_mul_le hV0).2 h3
   omega
theorem Sc {h P0 P1 c g q V K W:Nat} (hW:W=h*K+P0) (hP1:P1<K) (hVK:V<K) (hV0:0<V) (hq:q=W/V) (h1:q≤g) (h2:g≤q+1) (hs:P1+g*V=P0+c*K):
  (¬h<c→g=q∧P1=W % V)∧(h<c→g=q+1∧ ∀P2 c2,P2<K→P2+c2*K=P1+V→P2=W % V):=by
 have hdm:=Nat.div_add_mod W V
 have hlt:=Nat.mod_lt W hV0
 rw [←hq] at hdm
 obtain ⟨R,hR⟩: ∃R,R=W % V:=⟨_,rfl⟩
 rw [←hR] at hdm hlt⊢
 constructor
 ·intro hn
  obtain ⟨d,rfl⟩: ∃d,h=c+d:=⟨h-c,by omega⟩
  have e1:W=d*K+P1+g*V:=by rw [hW,Nat.add_mul];omega
  have e2:g=q:=by
   rcases Nat.lt_or_ge q g with hlt2|hge
   ·have:g=q+1:=by omega
    rw [this,Nat.add_mul,Nat.one_mul,Nat.mul_comm q] at e1
    omega
   ·omega
  refine ⟨e2,?_⟩
  rw [e2,Nat.mul_comm q] at e1
  have e3:d*K+P1=R:=by omega
  rcases Nat.eq_zero_or_pos d with h0|h0
  ·rw [h0,Nat.zero_mul,Nat.zero_add] at e3
   exact e3
  ·have:=Nat.mul_le_mul_right K h0
   rw [Nat.one_mul] at this
   omega
 ·intro hn
  obtain ⟨d,rfl⟩: ∃d,c=h+(d+1):=⟨c-h-1,by omega⟩
  have e1:W+(d+1)*K=P1+g*V:=by rw [hW];rw [Nat.add_mul] at hs;omega
  have e0:(d+1)*K=d*K+K:=by rw [Nat.add_mul,Nat.one_mul]
  have e2:g=q+1:=by
   rcases Nat.lt_or_ge q g with hlt2|hge
   ·omega
   ·have:g=q:=by omega
    rw [this,Nat.mul_comm q] at e1
    omega
  refine ⟨e2,?_⟩
  intro P2 c2 hP2 hb
  rw [e2,Nat.add_mul q 1 V,Nat.one_mul,e0,Nat.mul_comm q] at e1
  have e3:R+(d*K+K)=P1+V:=by omega
  have hd:d=0:=by
   rcases Nat.eq_zero_or_pos d with h0|h0
   ·exact h0
   ·have:=Nat.mul_le_mul_right K h0
    rw [Nat.one_mul] at this
    omega
  rw [hd,Nat.zero_mul,Nat.zero_add] at e3
  match c2,hb with
  | 0,hb=>rw [Nat.zero_mul] at hb;omega
  | 1,hb=>rw [Nat.one_mul] at hb;omega
  | k+2,hb=>
    have:=Nat.mul_le_mul_right K (show 2≤k+2 by omega)
    omega
theorem Jc {R:List Nat} {i n:Nat} (h:i+n<R.length):val ((R.drop i).take n)+4294967296^n*R.getD (i+n) 0=R.getD i 0+4294967296*val ((R.drop (i+1)).take n):=by
 have e1:=Au (R.drop i) n
 have e2:(R.drop i).take (n+1)=R.getD i 0::(R.drop (i+1)).take n:=by
  rw [Cm R i (by omega),List.take_succ_cons]
 have e3:(R.drop i).getD n 0=R.getD (i+n) 0:=by simp [List.getD]
 rw [e2,e3] at e1
 simpa [val] using e1.symm
theorem JY {R0 R R' Q:List Nat} {i n V W:Nat} (hi:i<Q.length) (hi2:i+n<R.length) (hl:R.length=R0.length) (ht:R.take (i+1)=R0.take (i+1))
  (hv:val (R0.drop (i+1))=val (Q.drop (i+1))*V+val ((R.drop (i+1)).take n)) (hW:W=R.getD (i+n) 0*4294967296^n+val ((R.drop i).take n)) (hr:val ((R'.drop i).take n)=W % V):
  val (R0.drop i)=val ((Q.set i (W/V)).drop i)*V+val ((R'.drop i).take n):=by
 have e1:R0.drop i=R.getD i 0::R0.drop (i+1):=by rw [Cm R0 i (by omega),G7 ht]
 have e2:(Q.set i (W/V)).drop i=W/V::Q.drop (i+1):=by
  rw [Cm _ _ (by rw [List.length_set];exact hi),EQ _ _ _ _ (by omega)]
  congr 1
  simp [List.getD,hi]
 have e3:=Jc hi2
 have e4:=Nat.div_add_mod W V
 rw [e1,e2,hr]
 simp only [val]
 rw [hv]
 have e5:W=R.getD i 0+4294967296*val ((R.drop (i+1)).take n):=by rw [hW,Nat.mul_comm,←e3,Nat.add_comm]
 generalize val ((R.drop (i+1)).take n)=A at*
 generalize val (Q.drop (i+1))=C at*
 rw [Nat.add_mul,Nat.mul_add,Nat.mul_assoc,Nat.mul_comm (W/V)]
 omega
theorem N5 {R:List Nat} {i n V W:Nat} (hL:Ai R) (hi2:i+n<R.length) (hr:val ((R.drop (i+1)).take n)<V) (hW:W=R.getD (i+n) 0*4294967296^n+val ((R.drop i).take n)):W/V<4294967296:=by
 have e3:=Jc hi2
 have hx:=hL.getD i
 refine Nat.div_lt_of_lt_mul ?_
 have e5:W=R.getD i 0+4294967296*val ((R.drop (i+1)).take n):=by rw [hW,Nat.mul_comm,←e3,Nat.add_comm]
 rw [e5]
 omega
theorem PV {Y:List Nat} (h:1≤Y.length):val Y=val (Y.take (Y.length-1))+4294967296^(Y.length-1)*Y.getD (Y.length-1) 0:=by
 have:=Dh Y (Y.length-1) (by omega)
 rwa [show Y.length-1+1=Y.length by omega,List.take_of_length_le (Yu _)] at this
theorem Rh {Y:List Nat} {up p:Nat} (hY:Ai Y) (h:1≤Y.length) (h1:2147483648≤Y.getD (Y.length-1) 0*p) (h2:(Y.getD (Y.length-1) 0+1)*p≤4294967296) (_h:p=2^up):
  2147483648*4294967296^(Y.length-1)≤val Y*p∧val Y*p<4294967296^Y.length:=by
 have h3:=Cf (hY.take (Y.length-1))
 rw [List.length_take,Nat.min_eq_left (by omega)] at h3
 rw [PV h,XS h]
 generalize (4294967296:Nat)^(Y.length-1)=K at*
 generalize Y.getD (Y.length-1) 0=t at*
 generalize val (Y.take (Y.length-1))=A at*
 have hp:0<p:=by
  rcases Nat.eq_zero_or_pos p with h|h
  ·rw [h] at h1;omega
  ·exact h
 have e1:(A+K*t)*p=A*p+K*(t*p):=by rw [Nat.add_mul,Nat.mul_assoc]
 have e2:=Nat.mul_le_mul_left K h1
 have e3:=Nat.mul_le_mul_left K h2
 have e4:A*p<K*p:=Nat.mul_lt_mul_of_pos_right h3 hp
 have e5:K*((t+1)*p)=K*(t*p)+K*p:=by rw [Nat.add_mul,Nat.one_mul,Nat.mul_add]
 rw [e1,Nat.mul_comm 2147483648]
 rw [e5] at e3
 omega
theorem Ri {D:List Nat} {n:Nat} (hn:n≤D.length) (h:val D<4294967296^n):val (D.take n)=val D:=by
 have h1:val D=val (D.take n)+4294967296^(D.take n).length*val (D.drop n):=by
  conv=>lhs;rw [←List.take_append_drop n D,Cb]
 rw [List.length_take,Nat.min_eq_left hn] at h1
 rcases Nat.eq_zero_or_pos (val (D.drop n)) with h0|h0
 ·rw [h0,Nat.mul_zero,Nat.add_zero] at h1
  exact h1.symm
 ·have:=Nat.mul_le_mul_left (4294967296^n) h0
  rw [Nat.mul_one] at this
  omega
theorem W4 {V:List Nat} (hV:Ai V) (h:1≤V.length) (h1:2147483648*4294967296^(V.length-1)≤val V):2147483648≤V.getD (V.length-1) 0:=by
 have h3:=Cf (hV.take (V.length-1))
 rw [List.length_take,Nat.min_eq_left (by omega)] at h3
 rw [PV h] at h1
 generalize (4294967296:Nat)^(V.length-1)=K at*
 generalize V.getD (V.length-1) 0=t at*
 rcases Nat.lt_or_ge t 2147483648 with hlt|hge
 ·have:=Nat.mul_le_mul_left K (show t+1≤2147483648 from hlt)
  rw [Nat.mul_add,Nat.mul_one,Nat.mul_comm K 2147483648] at this
  omega
 ·exact hge
theorem PE {R X:List Nat} {n V p:Nat} (hX:Ai X) (hR:Ai R) (hl:R.length=X.length+1) (hn:1≤n) (hnX:n≤X.length) (hv:val R=val X*p) (hp:p≤2147483648) (hp0:0<p) (hV:2147483648*4294967296^(n-1)≤V):
  val (R.drop (X.length-n+1))=0*V+val ((R.drop (X.length-n+1)).take n)∧val ((R.drop (X.length-n+1)).take n)<V:=by
 rw [List.take_of_length_le (by rw [List.length_drop];omega),Nat.zero_mul,Nat.zero_add]
 refine ⟨rfl,?_⟩
 rw [CF hR,hv]
 refine Nat.div_lt_of_lt_mul ?_
 have h1:=Cf hX
 have h2:(4294967296:Nat)^X.length=4294967296^(X.length-n+1)*4294967296^(n-1):=by
  rw [←Nat.pow_add]
  congr 1
  omega
 have h3:val X*p<4294967296^X.length*p:=Nat.mul_lt_mul_of_pos_right h1 hp0
 have h4:4294967296^X.length*p≤4294967296^X.length*2147483648:=Nat.mul_le_mul_left _ hp
 rw [h2,Nat.mul_assoc] at h3 h4
 have h5:=Nat.mul_le_mul_left (4294967296^(X.length-n+1)) hV
 rw [Nat.mul_comm 2147483648] at h5
 rw [Nat.mul_assoc] at h4
 omega
theorem Ub {x y p q r R0 Rv:Nat} (hp:0<p) (h0:R0=x*p) (hv:R0=q*(y*p)+Rv) (hr:Rv<y*p) (h:r=Rv/p):q=x/y∧r=x % y:=by
 have hy:0<y:=by
  rcases Nat.eq_zero_or_pos y with h|h
  ·rw [h,Nat.zero_mul] at hr;omega
  ·exact h
 have e1:q=R0/(y*p):=by
  rw [hv,Nat.add_comm,Nat.add_mul_div_right _ _ (Nat.mul_pos hy hp),Nat.div_eq_of_lt hr,Nat.zero_add]
 have e2:Rv=R0 % (y*p):=by
  rw [hv,Nat.add_comm,Nat.add_mul_mod_self_right,Nat.mod_eq_of_lt hr]
 rw [h0] at e1 e2
 rw [Nat.mul_div_mul_right _ _ hp] at e1
 rw [Nat.mul_mod_mul_right] at e2
 exact ⟨e1,by rw [h,e2,Nat.mul_div_cancel _ hp]⟩
theorem Ul {a b c d:Nat} (h: ∀k,(k∣a∧k∣b)↔(k∣c∧k∣d)):Nat.gcd a b=Nat.gcd c d:=by
 apply Nat.dvd_antisymm
 ·have:=(h (Nat.gcd a b)).1 ⟨Nat.gcd_dvd_left _ _,Nat.gcd_dvd_right _ _⟩
  exact Nat.dvd_gcd this.1 this.2
 ·have:=(h (Nat.gcd c d)).2 ⟨Nat.gcd_dvd_left _ _,Nat.gcd_dvd_right _ _⟩
  exact Nat.dvd_gcd this.1 this.2
theorem IQ {u:Nat} (hu:u % 2=1) (k:Nat):Nat.Coprime (2^k) u:=by
 apply Nat.Coprime.pow_left
 unfold Nat.Coprime
 have h1:Nat.gcd 2 u∣2:=Nat.gcd_dvd_left 2 u
 have h2:Nat.gcd 2 u∣u:=Nat.gcd_dvd_right 2 u
 have h3:=Nat.le_of_dvd (by omega) h1
 rcases Nat.lt_or_ge (Nat.gcd 2 u) 2 with h|h
 ·have:0<Nat.gcd 2 u:=Nat.gcd_pos_of_pos_left _ (by omega)
  omega
 ·have e:Nat.gcd 2 u=2:=by omega
  rw [e] at h2
  omega
theorem EP {u:Nat} (hu:u % 2=1) (k v:Nat):Nat.gcd u (2^k*v)=Nat.gcd u v:=by
 rw [Nat.gcd_comm u,Nat.gcd_comm u]
 exact Nat.Coprime.gcd_mul_left_cancel v (IQ hu k)
theorem IE {u:Nat} (hu:u % 2=1) (k v:Nat):Nat.gcd (2^k*v) u=Nat.gcd v u:=by
 rw [Nat.gcd_comm _ u,Nat.gcd_comm _ u]
 exact EP hu k v
theorem Uk {a b u v:Nat} (hu:u % 2=1) (hv:v % 2=1):Nat.gcd (2^a*u) (2^b*v)=2^min a b*Nat.gcd u v:=by
 rcases Nat.le_total a b with h|h
 ·obtain ⟨c,rfl⟩: ∃c,b=a+c:=⟨b-a,by omega⟩
  rw [Nat.min_eq_left h,Nat.pow_add,Nat.mul_assoc,Nat.gcd_mul_left,EP hu]
 ·obtain ⟨c,rfl⟩: ∃c,a=b+c:=⟨a-b,by omega⟩
  rw [Nat.min_eq_right h,Nat.pow_add,Nat.mul_assoc,Nat.gcd_mul_left,IE hv]
theorem Ma {x y:Nat} :Nat.gcd (min x y) (max x y-min x y)=Nat.gcd x y:=by
 rcases Nat.le_total x y with h|h
 ·rw [Nat.min_eq_left h,Nat.max_eq_right h]
  have:=Nat.gcd_sub_self_right h
  exact this
 ·rw [Nat.min_eq_right h,Nat.max_eq_left h,Nat.gcd_sub_self_right h,Nat.gcd_comm]
theorem VO {x y t m a u:Nat} (hx:x=2^a*u) (hu:u % 2=1) (h:x ||| y=2^t*(2*m+1)): ∃y',y=2^t*y'∧t≤a∧(t=a∨y' % 2=1):=by
 have hb: ∀i,(x ||| y).testBit i=(x.testBit i || y.testBit i):=fun i=>Nat.testBit_or x y i
 have low: ∀i,i<t→x.testBit i=false∧y.testBit i=false:=by
  intro i hi
  have h1:(x ||| y).testBit i=false:=by
   rw [h,Nat.mul_comm,Nat.testBit_mul_two_pow]
   simp
   omega
  rw [hb i] at h1
  simpa using h1
 have dvd: ∀z:Nat,(∀i,i<t→z.testBit i=false)→z=2^t*(z/2^t):=by
  intro z hz
  have h1:z % 2^t=0:=by
   apply Nat.eq_of_testBit_eq
   intro i
   rw [Nat.testBit_mod_two_pow,Nat.zero_testBit]
   by_cases hi:i<t
   ·simp [hz i hi]
   ·simp [hi]
  have h2:=Nat.div_add_mod z (2^t)
  rw [h1,Nat.add_zero] at h2
  exact h2.symm
 have hy:=dvd y (fun i hi=>(low i hi).2)
 have hta:t≤a:=by
  rcases Nat.lt_or_ge a t with hlt|hge
  ·have h1:=(low a hlt).1
   rw [hx,Nat.mul_comm,Nat.testBit_mul_two_pow] at h1
   simp [Nat.testBit_zero,hu] at h1
  ·exact hge
 refine ⟨y/2^t,hy,hta,?_⟩
 rcases Nat.lt_or_eq_of_le hta with hlt|he
 ·right
  have h1:(x ||| y).testBit t=true:=by
   rw [h,Nat.mul_comm,Nat.testBit_mul_two_pow]
   simp [Nat.testBit_zero]
  rw [hb t] at h1
  have h2:x.testBit t=false:=by
   rw [hx,Nat.mul_comm,Nat.testBit_mul_two_pow]
   simp
   omega
  rw [h2,Bool.false_or] at h1
  rw [Nat.testBit_eq_decide_div_mod_eq] at h1
  simpa using h1
 ·exact Or.inl he
theorem La {x y t m a u:Nat} (hx:x=2^a*u) (hu:u % 2=1) (h:x ||| y=2^t*(2*m+1)):Nat.gcd x y=2^t*Nat.gcd u y:=by
 obtain ⟨y',hy,hta,hor⟩:=VO hx hu h
 obtain ⟨c,rfl⟩: ∃c,a=t+c:=⟨a-t,by omega⟩
 rw [hx,hy,Nat.pow_add,Nat.mul_assoc,Nat.gcd_mul_left,EP hu]
 congr 1
 rcases hor with e|e
 ·obtain rfl:c=0:=by omega
  rw [Nat.pow_zero,Nat.one_mul]
 ·exact IE e c u
theorem Lb {X Y b v:Nat} (hX:X % 2=1) (hY:Y=2^b*v) (hv:v % 2=1):
  Nat.gcd (min X v) (max X v-min X v)=Nat.gcd X Y∧min X v % 2=1∧max X v<X+Y:=by
 have h1:v≤Y:=by
  rw [hY]
  exact Nat.le_mul_of_pos_left _ (Nat.pow_pos (by omega))
 refine ⟨?_,?_,?_⟩
 ·rw [Ma,hY,EP hX]
 ·rcases Nat.le_total X v with h|h
  ·rw [Nat.min_eq_left h];exact hX
  ·rw [Nat.min_eq_right h];exact hv
 ·omega
structure Steps (x0 y0:Nat) (σ:Int) (p q r s x y:Nat):Prop where
 sign:σ=1∨σ= -1
 det:(p:Int)*s-q*r=σ
 hx:x0=s*x+q*y
 hy:y0=r*x+p*y
 rs:r≤s
 qs:q≤s
 s1:1≤s
 le:y≤x
 st:(p=1∧q=0∧r=0∧s=1∧σ=1)∨(1≤q∧1≤r∧p≤q∧s≤y∧s+q+y≤x)
theorem Steps.start {x0 y0:Nat} (h:y0≤x0):Steps x0 y0 1 1 0 0 1 x0 y0:=
 ⟨Or.inl rfl,by omega,by omega,by omega,by omega,by omega,by omega,h,Or.inl ⟨rfl,rfl,rfl,rfl,rfl⟩⟩
theorem Steps.t1 {x0 y0:Nat} {σ:Int} {p q r s x y:Nat} (h:Steps x0 y0 σ p q r s x y) (hy:0<y):1≤x/y:=by
 exact (Nat.le_div_iff_mul_le hy).2 (by have:=h.le;omega)
theorem Steps.row {x0 y0:Nat} {σ:Int} {p q r s x y:Nat} (h:Steps x0 y0 σ p q r s x y) (hy:0<y):
  p+x/y*r≤q+x/y*s∧q+x/y*s≤x0∧s≤q+x/y*s:=by
 have ht:=h.t1 hy
 have hrs:=Nat.mul_le_mul_left (x/y) h.rs
 have hts:s≤x/y*s:=Nat.le_mul_of_pos_left _ ht
 refine ⟨?_,?_,by omega⟩
 ·rcases h.st with ⟨h1,h2,h3,h4,_⟩|⟨_,_,h3,_,_⟩
  ·rw [h1,h2,h3,h4];omega
  ·omega
 ·have e:=Nat.div_add_mod x y
  have h1:s*x=(x/y*s)*y+s*(x % y):=by
   conv=>lhs;rw [←e]
   rw [Nat.mul_add,Nat.mul_comm y,←Nat.mul_assoc,Nat.mul_comm s]
  have h2:(q+x/y*s)*y≤x0:=by
   rw [h.hx,h1,Nat.add_mul]
   omega
  exact Nat.le_trans (Nat.le_mul_of_pos_right _ hy) h2
theorem Steps.next {x0 y0:Nat} {σ:Int} {p q r s x y:Nat} (h:Steps x0 y0 σ p q r s x y) (hy:0<y) (h1:q+x/y*s≤x % y) (h2:q+x/y*s+s+x % y≤y):
  Steps x0 y0 (-σ) r s (p+x/y*r) (q+x/y*s) y (x % y):=by
 have ht:=h.t1 hy
 have hr:=h.row hy
 have e:=Nat.div_add_mod x y
 have hlt:=Nat.mod_lt x hy
 have e1: ∀z:Nat,z*x=(x/y*z)*y+z*(x % y):=by
  intro z
  conv=>lhs;rw [←e]
  rw [Nat.mul_add,Nat.mul_comm y,←Nat.mul_assoc,Nat.mul_comm z]
 refine ⟨by rcases h.sign with e|e<;>rw [e]<;>simp,?_,?_,?_,hr.1,hr.2.2,Nat.le_trans h.s1 hr.2.2,Nat.le_of_lt hlt,Or.inr ⟨h.s1,?_,h.rs,h1,h2⟩⟩
 ·have hd:=h.det
  generalize x/y=t at*
  rw [Int.natCast_add,Int.natCast_add,Int.natCast_mul,Int.natCast_mul,Int.mul_add,Int.mul_add]
  have e3:(r:Int)*(t*s)=s*(t*r):=by
   rw [Int.mul_left_comm,Int.mul_left_comm (s:Int),Int.mul_comm (r:Int)]
  rw [e3,Int.mul_comm (r:Int) q,Int.mul_comm (s:Int) p]
  omega
 ·rw [h.hx,e1 s,Nat.add_mul]
  omega
 ·rw [h.hy,e1 r,Nat.add_mul]
  omega
 ·rcases h.st with ⟨h1,_⟩|⟨_,h2,_⟩
  ·omega
  ·have:=Nat.mul_le_mul ht h2
   omega
theorem Steps.short {x0 y0:Nat} {σ:Int} {p q r s x y:Nat} (h:Steps x0 y0 σ p q r s x y) (hx:x0<4611686018427387904):s<2147483648:=by
 rcases h.st with ⟨_,_,_,h4,_⟩|⟨h1,_,_,h4,h5⟩
 ·omega
 ·rcases Nat.lt_or_ge s 2147483648 with hlt|hge
  ·exact hlt
  ·exfalso
   have h6:=Nat.mul_le_mul hge (show 2147483648≤x by omega)
   have:=h.hx
   omega
theorem Steps.made {x0 y0:Nat} {σ:Int} {p q r s x y:Nat} (h:Steps x0 y0 σ p q r s x y) (hq:1≤q) {A B K α β:Nat} (hA:A=x0*K+α) (hB:B=y0*K+β) (hα:α<K) (hβ:β<K):
  ∃A' B':Nat,(A':Int)=σ*p*A+ -σ*q*B∧(B':Int)= -σ*r*A+σ*s*B∧A=s*A'+q*B'∧B=r*A'+p*B'∧1≤B'∧B'≤A'∧A'≤B∧A'+B'<A+B∧Nat.gcd A' B'=Nat.gcd A B:=by
 obtain ⟨h1,h2,h3,h4,h5⟩:1≤q∧1≤r∧p≤q∧s≤y∧s+q+y≤x:=by
  rcases h.st with ⟨_,h2,_⟩|h
  ·omega
  ·exact h
 have hss:σ*σ=1:=by rcases h.sign with e|e<;>rw [e]<;>rfl
 obtain ⟨a,ha⟩: ∃a:Int,a=σ*p*A+ -σ*q*B:=⟨_,rfl⟩
 obtain ⟨b,hb⟩: ∃b:Int,b= -σ*r*A+σ*s*B:=⟨_,rfl⟩
 have eA:(A:Int)=s*a+q*b:=by
  have:(s:Int)*a+q*b=σ*((p:Int)*s-q*r)*A:=by
   rw [ha,hb]
   grind
  rw [this,h.det,hss,Int.one_mul]
 have eB:(B:Int)=r*a+p*b:=by
  have:(r:Int)*a+p*b=σ*((p:Int)*s-q*r)*B:=by
   rw [ha,hb]
   grind
  rw [this,h.det,hss,Int.one_mul]
 have xA:(A:Int)=x0*K+α:=by rw [hA];simp
 have xB:(B:Int)=y0*K+β:=by rw [hB];simp
 have ex0:(x0:Int)=s*x+q*y:=by rw [h.hx];simp
 have ey0:(y0:Int)=r*x+p*y:=by rw [h.hy];simp
 have ea:a=x*K+σ*(p*α-q*β):=by
  have:σ*((p:Int)*s-q*r)=1:=by rw [h.det,hss]
  rw [ha,xA,xB,ex0,ey0]
  grind
 have eb:b=y*K+σ*(s*β-r*α):=by
  have:σ*((p:Int)*s-q*r)=1:=by rw [h.det,hss]
  rw [hb,xA,xB,ex0,ey0]
  grind
 obtain ⟨xK,hxK⟩: ∃z,z=x*K:=⟨_,rfl⟩
 obtain ⟨yK,hyK⟩: ∃z,z=y*K:=⟨_,rfl⟩
 obtain ⟨sK,hsK⟩: ∃z,z=s*K:=⟨_,rfl⟩
 obtain ⟨qK,hqK⟩: ∃z,z=q*K:=⟨_,rfl⟩
 obtain ⟨pa,hpa⟩: ∃z,z=p*α:=⟨_,rfl⟩
 obtain ⟨qb,hqb⟩: ∃z,z=q*β:=⟨_,rfl⟩
 obtain ⟨sb,hsb⟩: ∃z,z=s*β:=⟨_,rfl⟩
 obtain ⟨ra,hra⟩: ∃z,z=r*α:=⟨_,rfl⟩
 have n1:sK≤yK:=by rw [hsK,hyK];exact Nat.mul_le_mul_right _ h4
 have n2:sK+qK+yK≤xK:=by
  rw [hsK,hqK,hyK,hxK,←Nat.add_mul,←Nat.add_mul]
  exact Nat.mul_le_mul_right _ h5
 have n3:sb+s≤sK:=by
  have:=Nat.mul_le_mul_left s (show β+1≤K from hβ)
  rw [Nat.mul_add,Nat.mul_one] at this
  omega
 have n4:ra+s≤sK:=by
  have e1:=Nat.mul_le_mul_left s (show α+1≤K from hα)
  rw [Nat.mul_add,Nat.mul_one] at e1
  have e2:=Nat.mul_le_mul_right α h.rs
  omega
 have n5:qb+q≤qK:=by
  have:=Nat.mul_le_mul_left q (show β+1≤K from hβ)
  rw [Nat.mul_add,Nat.mul_one] at this
  omega
 have n6:pa+q≤qK:=by
  have e1:=Nat.mul_le_mul_left q (show α+1≤K from hα)
  rw [Nat.mul_add,Nat.mul_one] at e1
  have e2:=Nat.mul_le_mul_right α h3
  omega
 have ea':a=xK+σ*((pa:Int)-qb):=by rw [ea,hxK,hpa,hqb];simp
 have eb':b=yK+σ*((sb:Int)-ra):=by rw [eb,hyK,hsb,hra];simp
 have s1:=h.s1
 clear ea eb hxK hyK hsK hqK hpa hqb hsb hra
 have hbounds:1≤b∧b≤a:=by
  rcases h.sign with e|e<;>rw [e] at ea' eb'<;>omega
 obtain ⟨hb1,hba⟩:=hbounds
 have ca:((a.toNat:Nat):Int)=a:=Int.toNat_of_nonneg (by omega)
 have cb:((b.toNat:Nat):Int)=b:=Int.toNat_of_nonneg (by omega)
 obtain ⟨A',hA'⟩: ∃A',A'=a.toNat:=⟨_,rfl⟩
 obtain ⟨B',hB'⟩: ∃B',B'=b.toNat:=⟨_,rfl⟩
 rw [←hA'] at ca
 rw [←hB'] at cb
 have fA:A=s*A'+q*B':=by
  have:(A:Int)=((s*A'+q*B':Nat):Int):=by rw [eA,←ca,←cb];simp
  exact Int.ofNat_inj.1 this
 have fB:B=r*A'+p*B':=by
  have:(B:Int)=((r*A'+p*B':Nat):Int):=by rw [eB,←ca,←cb];simp
  exact Int.ofNat_inj.1 this
 have k1:A'≤B:=by rw [fB];exact Nat.le_trans (Nat.le_mul_of_pos_left _ h2) (Nat.le_add_right _ _)
 have k2:A'+B'≤A:=by
  rw [fA]
  exact Nat.add_le_add (Nat.le_mul_of_pos_left _ s1) (Nat.le_mul_of_pos_left _ h1)
 refine ⟨A',B',by rw [ca];exact ha,by rw [cb];exact hb,fA,fB,by omega,by omega,k1,by omega,?_⟩
 refine Ul fun k=>⟨fun ⟨d1,d2⟩=>⟨?_,?_⟩,fun ⟨d1,d2⟩=>⟨?_,?_⟩⟩
 ·rw [fA];exact Nat.dvd_add (Nat.dvd_mul_left_of_dvd d1 _) (Nat.dvd_mul_left_of_dvd d2 _)
 ·rw [fB];exact Nat.dvd_add (Nat.dvd_mul_left_of_dvd d1 _) (Nat.dvd_mul_left_of_dvd d2 _)
 ·apply Int.ofNat_dvd.1
  rw [ca,ha]
  exact Int.dvd_add (Int.dvd_mul_of_dvd_right (Int.ofNat_dvd.2 d1)) (Int.dvd_mul_of_dvd_right (Int.ofNat_dvd.2 d2))
 ·apply Int.ofNat_dvd.1
  rw [cb,hb]
  exact Int.dvd_add (Int.dvd_mul_of_dvd_right (Int.ofNat_dvd.2 d1)) (Int.dvd_mul_of_dvd_right (Int.ofNat_dvd.2 d2))
def sg (neg:Bool) (n:Nat):Int:=if neg then-(n:Int) else n
theorem Dt (neg:Bool) (n:Nat):(sg neg n).natAbs=n:=by cases neg<;>simp [sg]
theorem Xc (neg:Bool) (n:Nat):sg (!neg) n= -sg neg n:=by cases neg<;>simp [sg]
theorem Xd (a b:Bool) (m n:Nat):sg a m*sg b n=sg (a !=b) (m*n):=by cases a<;>cases b<;>simp [sg,Int.neg_mul,Int.mul_neg]
theorem IW (z:Int):sg (decide (z<0)) z.natAbs=z:=by
 by_cases h:z<0
 ·rw [decide_eq_true h];simp [sg];omega
 ·rw [decide_eq_false h];simp [sg];omega
theorem XN (neg:Bool) (n:Nat):decide (sg neg n<0)=(neg&&decide (n≠0)):=by
 cases neg
 ·simp only [sg,Bool.false_eq_true,if_false,Bool.false_and];exact decide_eq_false (by omega)
 ·simp only [sg,if_true,Bool.true_and]
  by_cases h:n=0
  ·subst h;rfl
  ·rw [decide_eq_true h,decide_eq_true (by omega)]
theorem Vw (neg:Bool):sg neg 0=0:=by cases neg<;>rfl
theorem OH (neg:Bool) (m n:Nat):sg neg m+sg neg n=sg neg (m+n):=by cases neg<;>simp [sg]<;>omega
theorem Jm (neg:Bool) {m n:Nat} (h:n≤m):sg neg m+sg (!neg) n=sg neg (m-n):=by cases neg<;>simp [sg]<;>omega
theorem Dj (neg:Bool) (m n:Nat):sg neg (m*n)=sg neg m*n:=by cases neg<;>simp [sg,Int.neg_mul]
def AE (neg:Bool) (n d:Nat):Rat:=mkRat (sg neg n) d
theorem DX {n d:Nat} (neg:Bool) (hd:d≠0) (h:Nat.gcd n d=1):(AE neg n d).num=sg neg n∧(AE neg n d).den=d:=by
 unfold AE
 rw [Rat.num_mkRat,Rat.den_mkRat,if_neg hd,if_neg hd,Dt,Nat.gcd_comm,h]
 simp
theorem Pa (x:Rat):AE (decide (x.num<0)) x.num.natAbs x.den=x:=by
 unfold AE
 rw [IW,Rat.mkRat_self]
theorem F4 (neg:Bool) (n d:Nat) {c:Nat} (hc:c≠0):AE neg (n*c) (d*c)=AE neg n d:=by
 unfold AE
 rw [Dj,Rat.mkRat_mul_right hc]
theorem Ic (neg:Bool) {n d g:Nat} (hn:g∣n) (hd:g∣d) (h0:d≠0):AE neg (n/g) (d/g)=AE neg n d:=by
 obtain ⟨a,rfl⟩:=hn
 obtain ⟨b,rfl⟩:=hd
 have hg:g≠0:=by rintro rfl;simp at h0
 rw [Nat.mul_div_cancel_left _ (Nat.pos_of_ne_zero hg),Nat.mul_div_cancel_left _ (Nat.pos_of_ne_zero hg),Nat.mul_comm g a,Nat.mul_comm g b,F4 _ _ _ hg]
theorem F9 {n d:Nat} (hd:d≠0):Nat.gcd (n/Nat.gcd n d) (d/Nat.gcd n d)=1:=
 Nat.coprime_div_gcd_div_gcd (Nat.gcd_pos_of_pos_right _ (Nat.pos_of_ne_zero hd))
theorem GP (neg:Bool) (d:Nat):AE neg 0 d=0:=by
 unfold AE
 rw [Vw,Rat.zero_mkRat]
theorem RT (neg:Bool) (n d:Nat):AE (!neg) n d= -AE neg n d:=by
 unfold AE
 rw [Xc,Rat.neg_mkRat]
theorem Fl (a b:Bool) (n d m e:Nat):AE a n d*AE b m e=AE (a !=b) (n*m) (d*e):=by
 unfold AE
 rw [Rat.mkRat_mul_mkRat,Xd]
theorem Jy (a:Bool) {n d m e:Nat} (hd:d≠0) (he:e≠0):AE a n d+AE a m e=AE a (n*e+m*d) (d*e):=by
 unfold AE
 rw [Rat.mkRat_add_mkRat _ _ hd he,←Dj,←Dj,OH]
theorem F5 (a:Bool) {n d m e:Nat} (hd:d≠0) (he:e≠0) (h:m*d≤n*e):AE a n d+AE (!a) m e=AE a (n*e-m*d) (d*e):=by
 unfold AE
 rw [Rat.mkRat_add_mkRat _ _ hd he,←Dj,←Dj,Jm _ h]
theorem KK (a:Bool) {n d:Nat} (hn:n≠0) (hd:d≠0):(AE a n d)⁻¹=AE a d n:=by
 refine Rat.inv_eq_of_mul_eq_one ?_
 rw [Fl,show (a !=a)=false by cases a<;>rfl,Nat.mul_comm d n]
 unfold AE
 have h0:n*d≠0:=Nat.mul_ne_zero hn hd
 have:=Rat.mkRat_mul_right (n:=1) (d:=1) h0
 simp only [Int.one_mul,Nat.one_mul] at this
 unfold sg
 rw [if_neg (by simp),this]
 rfl
theorem MS {na da nb db:Nat} (a b:Bool) (ha:Nat.gcd na da=1) (hb:Nat.gcd nb db=1) (hda:da≠0) (hdb:db≠0):
  Nat.gcd (sg a na*(db/Nat.gcd da db:Nat)+sg b nb*(da/Nat.gcd da db:Nat)).natAbs (Nat.gcd da db)=
   Nat.gcd (sg a na*(db/Nat.gcd da db:Nat)+sg b nb*(da/Nat.gcd da db:Nat)).natAbs (da/Nat.gcd da db*db):=by
 obtain ⟨a1,a2⟩:=DX a hda ha
 obtain ⟨b1,b2⟩:=DX b hdb hb
 have:=Rat.add.aux (AE a na da) (AE b nb db) (g:=Nat.gcd da db) (ad:=da/Nat.gcd da db) (bd:=db/Nat.gcd da db) (by rw [a2,b2]) (by rw [a2]) (by rw [b2])
 rw [a1,b1,b2] at this
 exact this
theorem LW {na da nb db:Nat} (ha:Nat.gcd na da=1) (hb:Nat.gcd nb db=1) (hda:da≠0) (hdb:db≠0):
  Nat.gcd (na/Nat.gcd na db*(nb/Nat.gcd nb da)) (da/Nat.gcd nb da*(db/Nat.gcd na db))=1:=by
 have pa:=Nat.pos_of_ne_zero hda
 have pb:=Nat.pos_of_ne_zero hdb
 refine Nat.coprime_mul_iff_left.2 ⟨Nat.coprime_mul_iff_right.2 ⟨?_,?_⟩,Nat.coprime_mul_iff_right.2 ⟨?_,?_⟩⟩
 ·exact (Nat.Coprime.coprime_div_left ha (Nat.gcd_dvd_left ..)).coprime_div_right (Nat.gcd_dvd_right ..)
 ·exact Nat.coprime_div_gcd_div_gcd (Nat.gcd_pos_of_pos_right _ pb)
 ·exact Nat.coprime_div_gcd_div_gcd (Nat.gcd_pos_of_pos_right _ pa)
 ·exact (Nat.Coprime.coprime_div_left hb (Nat.gcd_dvd_left ..)).coprime_div_right (Nat.gcd_dvd_right ..)
theorem TV (neg:Bool) {na da nb db:Nat} (hda:da≠0) (hdb:db≠0):
  AE neg (na/Nat.gcd na db*(nb/Nat.gcd nb da)) (da/Nat.gcd nb da*(db/Nat.gcd na db))=AE neg (na*nb) (da*db):=by
 have g1:Nat.gcd na db≠0:=Nat.ne_of_gt (Nat.gcd_pos_of_pos_right _ (Nat.pos_of_ne_zero hdb))
 have g2:Nat.gcd nb da≠0:=Nat.ne_of_gt (Nat.gcd_pos_of_pos_right _ (Nat.pos_of_ne_zero hda))
 have e1:=Nat.div_mul_cancel (Nat.gcd_dvd_left na db)
 have e2:=Nat.div_mul_cancel (Nat.gcd_dvd_left nb da)
 have e3:=Nat.div_mul_cancel (Nat.gcd_dvd_right nb da)
 have e4:=Nat.div_mul_cancel (Nat.gcd_dvd_right na db)
 generalize Nat.gcd na db=g at*
 generalize Nat.gcd nb da=h at*
 rw [←F4 neg _ _ (Nat.mul_ne_zero g1 g2)]
 congr 1
 ·conv=>rhs;rw [←e1,←e2]
  grind
 ·conv=>rhs;rw [←e3,←e4]
  grind
def Yc (x y:Rat):Int:=if x<y then-1 else if y<x then 1 else 0
def Rr (x:Rat):Int:=if x.num=0 then 0 else if x.num<0 then-1 else 1
theorem Vv {x:Rat} :Rr x=0↔x=0:=by
 unfold Rr
 rw [←Rat.num_eq_zero]
 by_cases h:x.num=0
 ·simp [h]
 ·rw [if_neg h]
  by_cases h2:x.num<0
  ·simp [h2,h]
  ·simp [h2,h]
theorem S7 {a b s:Bool} {na da nb db z g r:Nat} (ha:Nat.gcd na da=1) (hb:Nat.gcd nb db=1) (hda:da≠0) (hdb:db≠0) (hg:g=Nat.gcd da db) (hr:r=Nat.gcd z g) (h:sg s z=sg a (na*(db/g))+sg b (nb*(da/g))):
  Nat.gcd (z/r) (da/g*(db/r))=1∧da/g*(db/r)≠0∧AE s (z/r) (da/g*(db/r))=AE a na da+AE b nb db:=by
 have hc:=MS a b ha hb hda hdb
 rw [←hg] at hc
 rw [Dj,Dj] at h
 rw [←h,Dt,←hr] at hc
 have hgd:g∣db:=by rw [hg];exact Nat.gcd_dvd_right _ _
 have hga:g∣da:=by rw [hg];exact Nat.gcd_dvd_left _ _
 have hrg:r∣g:=by rw [hr];exact Nat.gcd_dvd_right _ _
 have hrz:r∣z:=by rw [hr];exact Nat.gcd_dvd_left _ _
 have g0:g≠0:=by rw [hg];exact Nat.ne_of_gt (Nat.gcd_pos_of_pos_left _ (Nat.pos_of_ne_zero hda))
 have r0:r≠0:=by
  rintro rfl
  exact g0 (Nat.eq_zero_of_zero_dvd hrg)
 have e1:da/g*(db/r)=da/g*db/r:=(Nat.mul_div_assoc _ (Nat.dvd_trans hrg hgd)).symm
 have pa:da/g≠0:=Nat.ne_of_gt (Nat.div_pos (Nat.le_of_dvd (Nat.pos_of_ne_zero hda) hga) (Nat.pos_of_ne_zero g0))
 have hD:da/g*db≠0:=Nat.mul_ne_zero pa hdb
 have hrD:r∣da/g*db:=Nat.dvd_trans (Nat.dvd_trans hrg hgd) (Nat.dvd_mul_left _ _)
 rw [e1]
 refine ⟨?_,?_,?_⟩
 ·have:=F9 (n:=z) hD
  rw [←hc] at this
  exact this
 ·exact Nat.ne_of_gt (Nat.div_pos (Nat.le_of_dvd (Nat.pos_of_ne_zero hD) hrD) (Nat.pos_of_ne_zero r0))
 ·rw [Ic s hrz hrD hD,←F4 s _ _ g0]
  unfold AE
  rw [Rat.mkRat_add_mkRat _ _ hda hdb,Dj,h,Int.add_mul]
  have p1:sg a na*((db/g:Nat):Int)*(g:Int)=sg a na*(db:Int):=by
   rw [Int.mul_assoc,←Int.natCast_mul,Nat.div_mul_cancel hgd]
  have p2:sg b nb*((da/g:Nat):Int)*(g:Int)=sg b nb*(da:Int):=by
   rw [Int.mul_assoc,←Int.natCast_mul,Nat.div_mul_cancel hga]
  have p3:da/g*db*g=da*db:=by
   rw [Nat.mul_assoc,Nat.mul_comm db g,←Nat.mul_assoc,Nat.div_mul_cancel hga]
  rw [p1,p2,p3]
end Go.Proofs.YtfineedhebhpaaaGreatDoor
