/-
  Several texts in one: Ta, Rm, Rb, Rc, Rd.
-/
import Derived.Test.YtgdlialkjiblpaaGreatDoorHa
import Derived.Test.YtgdlialkjiblpaaGreatDoorGs
import Derived.Test.YtgdlialkjiblpaaGreatDoorGr
import Derived.Test.YtgdlialkjiblpaaGreatDoorNa
import Derived.Test.YtgdlialkjiblpaaGreatDoorSe
namespace Go.Proofs.YtgdlialkjiblpaaGreatDoor
open Go.RowKit
set_option linter.unusedVariables false
set_option linter.unusedSimpArgs false
set_option maxRecDepth 20000
set_option maxHeartbeats 4000000
section
variable {P:Program} {X:Ctx} {ops l:List Oper} {σ:St} {K:List Eff→St→Prop} {dst:Option Tmp} {ty:TypeId} {pos:String} {af:Array Edge} {gd:Option (Nat×Bool)}
end
theorem cmp_pos {x y:Rat} :0<cmpR x y↔y<x:=by
 unfold cmpR
 by_cases h1:x<y
 ·rw [if_pos h1];constructor
  ·intro h;omega
  ·intro h;grind
 ·rw [if_neg h1]
  by_cases h2:y<x
  ·rw [if_pos h2];simp [h2]
  ·rw [if_neg h2];simp [h2]
theorem cmp_le0 {x y:Rat} :cmpR x y≤0↔x≤y:=by
 have h:=cmp_pos (x:=x) (y:=y)
 constructor
 ·intro h1;have: ¬y<x:=fun h2=>by have:=h.2 h2;omega
  grind
 ·intro h1;have: ¬0<cmpR x y:=fun h2=>by have:=h.1 h2;grind
  omega
theorem mn_cases (x y:Rat):(mn x y=x∧x≤y)∨(mn x y=y∧y≤x):=by
 unfold mn
 split
 ·rename_i h;exact .inl ⟨rfl,cmp_le0.1 h⟩
 ·rename_i h;exact .inr ⟨rfl,by have:=cmp_pos.1 (show 0<cmpR x y by omega);grind⟩
theorem mx_cases (x y:Rat):(mx x y=x∧y≤x)∨(mx x y=y∧x≤y):=by
 unfold mx
 split
 ·rename_i h;exact .inl ⟨rfl,by rw [ord_neg] at h;exact cmp_le0.1 (by omega)⟩
 ·rename_i h;exact .inr ⟨rfl,cmp_le0.1 (by omega)⟩
section
variable {j1 j2 j3 j4:Nat} {a b c d x:Rat}
theorem t_sameT:Ctr Tryz.prog Amb 13 [sp j1 a j2 b,sp j3 a j4 b] (.one (.v (.bool true))):=t_same (p:=true) (q:=true) (decide_eq_true rfl) (decide_eq_true rfl)
end
end Go.Proofs.YtgdlialkjiblpaaGreatDoor
namespace Go.Proofs.YtgdlialkjiblpaaGreatDoor
set_option linter.unusedVariables false
def isq:Nat→Nat
 | 0=>0
 | n+1=>match isq n with | s=>if (s+1)*(s+1)≤n+1 then s+1 else s
theorem isq_ok: ∀n,isq n*isq n≤n∧n<(isq n+1)*(isq n+1)
 | 0=>by decide
 | n+1=>by
   obtain ⟨h1,h2⟩:=isq_ok n
   have e:isq (n+1)=if (isq n+1)*(isq n+1)≤n+1 then isq n+1 else isq n:=rfl
   rw [e]
   split
   ·rename_i h
    refine ⟨h,?_⟩
    have:(isq n+1+1)*(isq n+1+1)=(isq n+1)*(isq n+1)+(2*isq n+3):=by grind
    omega
   ·exact ⟨by omega,by omega⟩
theorem sq_mono {a b:Nat} (h:a≤b):a*a≤b*b:=Nat.mul_le_mul h h
theorem le_isq {n m:Nat} (h:m*m≤n):m≤isq n:=by
 rcases Nat.lt_or_ge (isq n) m with h1 | h1
 ·have:=sq_mono (show isq n+1≤m from h1);have:=(isq_ok n).2;omega
 ·exact h1
theorem newton_ge {n X:Nat} (hX:0<X):isq n≤(X+n/X)/2:=by
 rw [Nat.le_div_iff_mul_le (by decide)]
 rcases Nat.lt_or_ge (X+n/X) (isq n*2) with h | h
 ·exfalso
  have hq0:=Nat.zero_le (n/X)
  have hlt:X≤isq n*2:=by generalize n/X=q at*;omega
  obtain ⟨t,ht⟩: ∃t,isq n*2=X+t:=⟨isq n*2-X,by omega⟩
  have h1:n/X<t:=by omega
  have h2:n<t*X:=(Nat.div_lt_iff_lt_mul hX).1 h1
  have h3:=(isq_ok n).1
  generalize isq n=s at*
  have h4:t*X≤s*s:=by
   have h5:(0:Int)≤((X:Int)-s)*((X:Int)-s):=by
    rcases Int.le_total (X:Int) s with h | h
    ·have:=Int.mul_nonneg (show (0:Int)≤s-X by omega) (show (0:Int)≤s-X by omega);grind
    ·exact Int.mul_nonneg (by omega) (by omega)
   have h6:(t:Int)=2*s-X:=by omega
   have h7:(t:Int)*X≤(s:Int)*s:=by rw [h6];grind
   exact_mod_cast h7
  omega
 ·exact h
theorem newton_stop {n X:Nat} (hX:0<X) (h:X≤(X+n/X)/2) (hs:isq n≤X):X=isq n:=by
 have h1:X≤n/X:=by omega
 have h2:=(Nat.le_div_iff_mul_le hX).1 h1
 have:=le_isq h2
 omega
theorem newton_half {n X:Nat} (hs:isq n<X):((X+n/X)/2-isq n)*2≤X-isq n:=by
 have h1:n/X<isq n+1:=(Nat.div_lt_iff_lt_mul (by omega)).2 (Nat.lt_of_lt_of_le (isq_ok n).2 (Nat.mul_le_mul_left _ hs))
 omega
def fx (k X:Nat):Rat:=(X:Rat)/((2^k:Nat):Rat)
theorem fx_mul (k X:Nat):fx k X*((2^k:Nat):Rat)=X:=by
 have hp:=pow2_pos k
 exact Rat.div_mul_cancel (by grind)
theorem floor_eq {y:Rat} {z:Int} (h1:(z:Rat)≤y) (h2:y<(z:Rat)+1):y.floor=z:=by
 have a:=Rat.le_floor_iff.2 h1
 have b:y.floor<z+1:=Rat.floor_lt_iff.2 (by rw [Rat.intCast_add];exact h2)
 omega
theorem le_of_mul {a b p:Rat} (hp:0<p) (h:a*p≤b*p):a≤b:=by
 rcases Std.lt_trichotomy a b with h1 | h1 | h1
 ·grind
 ·grind
 ·have:=Rat.mul_pos (a:=a-b) (b:=p) (by grind) hp;grind
theorem lt_of_mul {a b p:Rat} (hp:0<p) (h:a*p<b*p):a<b:=by
 rcases Std.lt_trichotomy a b with h1 | h1 | h1
 ·exact h1
 ·grind
 ·have:=Rat.mul_pos (a:=a-b) (b:=p) (by grind) hp;grind
theorem mul_le {a b p:Rat} (hp:0≤p) (h:a≤b):a*p≤b*p:=by
 have:=Rat.mul_nonneg (a:=b-a) (b:=p) (by grind) hp;grind
theorem down_eq {x:Rat} {k z:Nat} (h1:(z:Rat)≤x*((2^k:Nat):Rat)) (h2:x*((2^k:Nat):Rat)<(z:Rat)+1):downR x k=fx k z:=by
 rw [downR_floor,floor_eq (z:=(z:Int)) (by exact_mod_cast h1) (by exact_mod_cast h2)]
 rfl
def nR (r:Rat) (k:Nat):Nat:=(r*((2^k:Nat):Rat)*((2^k:Nat):Rat)).floor.toNat
theorem nR_ok {r:Rat} (hr:0≤r) (k:Nat):((nR r k:Nat):Rat)≤r*((2^k:Nat):Rat)*((2^k:Nat):Rat)∧r*((2^k:Nat):Rat)*((2^k:Nat):Rat)<(nR r k:Rat)+1:=by
 have hp:=pow2_pos k
 unfold nR
 have h0:0≤r*((2^k:Nat):Rat)*((2^k:Nat):Rat):=Rat.mul_nonneg (Rat.mul_nonneg hr (by grind)) (by grind)
 generalize r*((2^k:Nat):Rat)*((2^k:Nat):Rat)=y at*
 have h1:(0:Int)≤y.floor:=Rat.le_floor_iff.2 h0
 have h2:(((y.floor.toNat:Nat):Int):Rat)=(y.floor:Rat):=by rw [Int.toNat_of_nonneg h1]
 have h3:((y.floor.toNat:Nat):Rat)=(y.floor:Rat):=h2
 rw [h3]
 refine ⟨Rat.floor_le y,?_⟩
 have:=Rat.lt_floor_add_one y
 rw [Rat.intCast_add] at this
 exact this
theorem natR_le {a b:Nat} :(a:Rat)≤(b:Rat)↔a≤b:=by
 constructor
 ·intro h;exact_mod_cast h
 ·intro h;exact_mod_cast h
theorem natR_lt {a b:Nat} :(a:Rat)<(b:Rat)↔a<b:=by
 constructor
 ·intro h;exact_mod_cast h
 ·intro h;exact_mod_cast h
theorem natR_mul (a b:Nat):((a*b:Nat):Rat)=(a:Rat)*b:=by simp
theorem natR_add (a b:Nat):((a+b:Nat):Rat)=(a:Rat)+b:=by simp
theorem down_quo {r:Rat} (hr:0≤r) {k X:Nat} (hX:0<X):downR (r/fx k X) k=fx k (nR r k/X):=by
 obtain ⟨h1,h2⟩:=nR_ok hr k
 have hp:=pow2_pos k
 have hf:=fx_mul k X
 have hx:(0:Rat)<X:=by exact_mod_cast hX
 have hf0:fx k X≠0:=by intro h;rw [h] at hf;grind
 have e:r/fx k X*((2^k:Nat):Rat)*X=r*((2^k:Nat):Rat)*((2^k:Nat):Rat):=by
  have:=Rat.div_mul_cancel (a:=r) hf0
  rw [←hf]
  generalize r/fx k X=q at*
  rw [←this];grind
 have hq1:=Nat.div_mul_le_self (nR r k) X
 have hq2:nR r k+1≤(nR r k/X+1)*X:=by
  have:=Nat.div_add_mod (nR r k) X
  have:=Nat.mod_lt (nR r k) hX
  grind
 refine down_eq (le_of_mul hx ?_) (lt_of_mul hx ?_)
 ·rw [e,←natR_mul]
  have:=natR_le.2 hq1;grind
 ·rw [e]
  have:=natR_le.2 hq2
  rw [natR_mul,natR_add,natR_add] at this
  exact Std.lt_of_lt_of_le h2 this
theorem down_mid (k X Y:Nat):downR ((fx k X+fx k Y)*ratOf false 1 2) k=fx k ((X+Y)/2):=by
 have hh:ratOf false 1 2+ratOf false 1 2=1:=by decide+kernel
 have e:(fx k X+fx k Y)*ratOf false 1 2*((2^k:Nat):Rat)=((X+Y:Nat):Rat)*ratOf false 1 2:=by
  rw [natR_add,←fx_mul k X,←fx_mul k Y];grind
 have d1:(X+Y)/2+(X+Y)/2≤X+Y:=by omega
 have d2:X+Y<(X+Y)/2+1+((X+Y)/2+1):=by omega
 have d3:=natR_le.2 d1
 have d4:=natR_lt.2 d2
 generalize (X+Y)/2=m at*
 rw [natR_add m m] at d3
 rw [natR_add (m+1) (m+1),natR_add m 1] at d4
 generalize ((X+Y:Nat):Rat)=s at*
 have one:((1:Nat):Rat)=1:=rfl
 rw [one] at d4
 have hs:s*ratOf false 1 2+s*ratOf false 1 2=s:=by rw [←Rat.mul_add,hh,Rat.mul_one]
 generalize s*ratOf false 1 2=u at*
 refine down_eq ?_ ?_
 ·rw [e];grind
 ·rw [e];grind
theorem fx_lt {k X Y:Nat} :fx k X<fx k Y↔X<Y:=by
 have hp:=pow2_pos k
 have h1:=fx_mul k X
 have h2:=fx_mul k Y
 constructor
 ·intro h
  have h3:=Rat.mul_pos (a:=fx k Y-fx k X) (by grind) hp
  exact natR_lt.1 (by grind)
 ·intro h
  have h3:=natR_lt.2 h
  exact lt_of_mul hp (by grind)
theorem fx_cmp {k X Y:Nat} :0≤cmpR (fx k X) (fx k Y)↔Y≤X:=by
 unfold cmpR
 by_cases h1:fx k X<fx k Y
 ·have:=fx_lt.1 h1
  rw [if_pos h1];omega
 ·rw [if_neg h1]
  have h3: ¬X<Y:=fun h=>h1 (fx_lt.2 h)
  by_cases h2:fx k Y<fx k X
  ·rw [if_pos h2];omega
  ·rw [if_neg h2];omega
end Go.Proofs.YtgdlialkjiblpaaGreatDoor
namespace Go.Proofs.YtgdlialkjiblpaaGreatDoor
open Go.RowKit
set_option linter.unusedVariables false
set_option linter.unusedSimpArgs false
set_option maxRecDepth 20000
set_option maxHeartbeats 4000000
def abv (r:Rat) (k:Nat):Nat:=2^((k:Int)+aboveE r k).toNat
theorem aboveE_ge (r:Rat) (k:Int): -k≤aboveE r k:=by unfold aboveE;simp only [];split<;>omega
theorem pow_cast (a b:Nat):((2^(a+b):Nat):Rat)=((2^a:Nat):Rat)*((2^b:Nat):Rat):=by rw [Nat.pow_add,natR_mul]
theorem twoPow_fx {n:Int} {k:Nat} (h: -(k:Int)≤n):twoPow n=fx k (2^((k:Int)+n).toNat):=by
 unfold twoPow fx
 by_cases h0:n<0
 ·rw [if_pos h0]
  have e:k=n.natAbs+((k:Int)+n).toNat:=by omega
  have p1:=pow2_pos n.natAbs
  have p2:=pow2_pos ((k:Int)+n).toNat
  have q:=pow_cast n.natAbs ((k:Int)+n).toNat
  rw [←e] at q
  rw [q]
  generalize ((2^n.natAbs:Nat):Rat)=u at*
  generalize ((2^((k:Int)+n).toNat:Nat):Rat)=v at*
  have hu:u≠0:=by grind
  have hv:v≠0:=by grind
  grind
 ·rw [if_neg h0]
  have e:((k:Int)+n).toNat=n.natAbs+k:=by omega
  rw [e,pow_cast]
  have p1:=pow2_pos k
  generalize ((2^k:Nat):Rat)=u at*
  have hu:u≠0:=by grind
  grind
theorem abv_eq (r:Rat) (k:Nat):twoPow (aboveE r k)=fx k (abv r k):=twoPow_fx (aboveE_ge r k)
theorem bitsN_den (r:Rat):2^((if 1<bitsN (dnOf r) then bitsN (dnOf r) else 1)-1)≤r.den:=by
 have hd:=r.den_pos
 unfold dnOf
 by_cases h1:r.den=1
 ·rw [if_pos h1,if_neg (by decide)];exact hd
 ·rw [if_neg h1]
  have:=(bitsN_spec (n:=r.den) (by omega)).1
  split
  ·exact this
  ·exact hd
theorem rat_den (r:Rat):r*(r.den:Rat)=(r.num:Rat):=by
 have h:(r.num:Rat)/(r.den:Rat)=r:=by rw [←Rat.mkRat_eq_div,Rat.mkRat_self]
 have hd:(r.den:Rat)≠0:=by
  intro h0
  have:r.den=0:=by exact_mod_cast h0
  exact r.den_nz this
 have:=Rat.div_mul_cancel (a:=(r.num:Rat)) hd
 rw [h] at this
 exact this
theorem num_pos {r:Rat} (hr:0<r):(r.num:Rat)=((r.num.natAbs:Nat):Rat)∧r.num.natAbs≠0:=by
 have h:0<r.num:=by
  have h1:=Rat.num_nonneg.2 (Rat.le_of_lt hr)
  have h2:r.num≠0:=by
   intro h0
   have:=rat_den r
   have hd:(0:Rat)<(r.den:Rat):=natR_lt.2 r.den_pos
   have:=Rat.mul_pos hr hd
   rw [rat_den,h0] at this
   exact Rat.lt_irrefl this
  omega
 refine ⟨?_,by omega⟩
 have e:r.num=((r.num.natAbs:Nat):Int):=by omega
 conv=>lhs;rw [e]
 rfl
theorem isq_lt_abv {r:Rat} (hr:0<r) (k:Nat):isq (nR r k)<abv r k:=by
 obtain ⟨e1,e2⟩:=num_pos hr
 obtain ⟨b1,b2,b3⟩:=bitsN_spec e2
 have d1:=bitsN_den r
 have hz:(bitsN r.num.natAbs:Int)+2*k≤2*((k:Int)+aboveE r k)+(((if 1<bitsN (dnOf r) then bitsN (dnOf r) else 1)-1:Nat):Int):=by
  unfold aboveE
  simp only []
  generalize bitsN r.num.natAbs=a at*
  generalize bitsN (dnOf r)=d at*
  rw [Int.fdiv_eq_ediv_of_nonneg _ (by decide)]
  split<;>split<;>split<;>omega
 have hz0:=aboveE_ge r k
 unfold abv
 obtain ⟨z,hzz⟩: ∃z:Nat,z=((k:Int)+aboveE r k).toNat:=⟨_,rfl⟩
 rw [←hzz]
 generalize (if 1<bitsN (dnOf r) then bitsN (dnOf r) else 1)-1=m at*
 have hz2:bitsN r.num.natAbs+(k+k)≤z+z+m:=by omega
 generalize bitsN r.num.natAbs=a at*
 clear hz hzz hz0
 have hp:=pow2_pos k
 have hm:=pow2_pos m
 have h1:r*((2^m:Nat):Rat)≤r*(r.den:Rat):=by
  have:=mul_le (Rat.le_of_lt hr) (natR_le.2 d1);grind
 rw [rat_den,e1] at h1
 have h2:=natR_lt.2 b2
 have h3:r*((2^m:Nat):Rat)<((2^a:Nat):Rat):=Std.lt_of_le_of_lt h1 h2
 have h4:r*((2^k:Nat):Rat)*((2^k:Nat):Rat)<((2^z*2^z:Nat):Rat):=by
  refine lt_of_mul hm ?_
  have h5:((2^(a+(k+k)):Nat):Rat)≤((2^(z+z+m):Nat):Rat):=natR_le.2 (Nat.pow_le_pow_right (by decide) hz2)
  rw [pow_cast,pow_cast,pow_cast,pow_cast] at h5
  rw [natR_mul]
  have h6:=Rat.mul_pos (a:=((2^a:Nat):Rat)-r*((2^m:Nat):Rat)) (b:=((2^k:Nat):Rat)*((2^k:Nat):Rat)) (by grind) (Rat.mul_pos hp hp)
  grind
 have h5:=(nR_ok (Rat.le_of_lt hr) k).1
 have h6:nR r k<2^z*2^z:=natR_lt.1 (Std.lt_of_le_of_lt h5 h4)
 rcases Nat.lt_or_ge (isq (nR r k)) (2^z) with h | h
 ·exact h
 ·have:=sq_mono h
  have:=(isq_ok (nR r k)).1
  omega
theorem newton_end {r:Rat} (hr:0<r) {k X:Nat} (hX:isq (nR r k)≤X) (h:(X-isq (nR r k))*2^(k+max (bitsN r.num.natAbs) (bitsN r.den))≤abv r k-isq (nR r k)):X=isq (nR r k):=by
 rcases Nat.eq_or_lt_of_le hX with h0 | h0
 ·exact h0.symm
 exfalso
 obtain ⟨e1,e2⟩:=num_pos hr
 obtain ⟨b1,b2,b3⟩:=bitsN_spec e2
 have h1:2^(k+max (bitsN r.num.natAbs) (bitsN r.den))≤(X-isq (nR r k))*2^(k+max (bitsN r.num.natAbs) (bitsN r.den)):=Nat.le_mul_of_pos_left _ (by omega)
 have hlt:=isq_lt_abv hr k
 have hz:aboveE r k≤(bitsN r.num.natAbs:Int)∧(aboveE r k=(bitsN r.num.natAbs:Int)→bitsN r.num.natAbs=1∧bitsN (dnOf r)≤1):=by
  unfold aboveE
  simp only []
  generalize bitsN r.num.natAbs=a at*
  generalize bitsN (dnOf r)=d at*
  rw [Int.fdiv_eq_ediv_of_nonneg _ (by decide)]
  split<;>split<;>omega
 have hz0:=aboveE_ge r k
 have hT:2^(k+max (bitsN r.num.natAbs) (bitsN r.den))≤abv r k-isq (nR r k):=Nat.le_trans h1 h
 have hle:abv r k≤2^(k+max (bitsN r.num.natAbs) (bitsN r.den)):=Nat.pow_le_pow_right (by decide) (by omega)
 have hs:isq (nR r k)=0:=by omega
 have hE:abv r k=2^(k+max (bitsN r.num.natAbs) (bitsN r.den)):=by omega
 have hexp:((k:Int)+aboveE r k).toNat=k+max (bitsN r.num.natAbs) (bitsN r.den):=(Nat.pow_right_inj (by decide:1<2)).1 hE
 have hA:aboveE r k=(bitsN r.num.natAbs:Int):=by omega
 obtain ⟨a1,d1⟩:=hz.2 hA
 rw [a1] at b1 b2
 have hn:r.num.natAbs=1:=by omega
 have hd:r.den=1:=by
  rcases Nat.lt_or_ge 1 r.den with h | h
  ·exfalso
   have e:dnOf r=r.den:=by unfold dnOf;rw [if_neg (by omega)]
   rw [e] at d1
   have:=(bitsN_spec (n:=r.den) (by omega)).2.1
   have h2:2^bitsN r.den≤2^1:=Nat.pow_le_pow_right (by decide) d1
   omega
  ·have:=r.den_pos;omega
 have hr1:r=1:=by
  have:=rat_den r
  rw [e1,hn,hd] at this
  have one:((1:Nat):Rat)=1:=rfl
  rw [one,Rat.mul_one] at this
  exact this
 have hN:=(nR_ok (Rat.le_of_lt hr) k).2
 have h3:1≤nR r k:=by
  rcases Nat.eq_zero_or_pos (nR r k) with h | h
  ·exfalso
   rw [h,hr1] at hN
   have p:=natR_le.2 (Nat.two_pow_pos k)
   have z:((0:Nat):Rat)=0:=rfl
   have one:((Nat.succ 0:Nat):Rat)=1:=rfl
   rw [z] at hN
   rw [one] at p
   have:=Rat.mul_nonneg (a:=((2^k:Nat):Rat)-1) (b:=((2^k:Nat):Rat)-1) (by grind) (by grind)
   grind
  ·exact h
 have:=(isq_ok (nR r k)).2
 rw [hs] at this
 omega
def rootR (r:Rat) (k:Nat):Rat:=fx k (isq (nR r k))
theorem rootR_neg {r:Rat} (h: ¬0<r) (k:Nat):rootR r k=0:=by
 have hp:=pow2_pos k
 have h0:nR r k=0:=by
  unfold nR
  have h1:r*((2^k:Nat):Rat)*((2^k:Nat):Rat)<((1:Int):Rat):=by
   have one:((1:Int):Rat)=1:=rfl
   have:=Rat.mul_nonneg (a:= -r) (b:=((2^k:Nat):Rat)*((2^k:Nat):Rat)) (by grind) (Rat.le_of_lt (Rat.mul_pos hp hp))
   rw [one]
   grind
  have:=Rat.floor_lt_iff.2 h1
  omega
 unfold rootR fx
 rw [h0]
 show ((0:Nat):Rat)/_=0
 have z:((0:Nat):Rat)=0:=rfl
 rw [z,Rat.div_def,Rat.zero_mul]
theorem fx_sz {k X n:Nat} (hk:k<32*n) (hX:X<4294967296^n):RSz n (fx k X):=by
 unfold fx
 have e:((X:Rat))/((2^k:Nat):Rat)=mkRat (X:Int) (2^k):=by rw [Rat.mkRat_eq_div];rfl
 rw [e]
 exact RSz.of_mkRat (length_toL_le _ _ (by simpa using hX)) (szq_pow2 hk) (by have:=Nat.two_pow_pos k;omega)
end Go.Proofs.YtgdlialkjiblpaaGreatDoor
namespace Go.Proofs.YtgdlialkjiblpaaGreatDoor
open Go.RowKit
set_option linter.unusedVariables false
set_option linter.unusedSimpArgs false
set_option maxRecDepth 20000
set_option maxHeartbeats 4000000
theorem scaleQ_nat {k:Nat} (hk:k≤4096):scaleQ (k:Int)=k:=by unfold scaleQ;omega
theorem down0 (k:Nat):downR 0 k=0:=by
 have e:=down_eq (x:=0) (k:=k) (z:=0) (by rw [Rat.zero_mul];exact Rat.le_refl) (by rw [Rat.zero_mul];decide+kernel)
 rw [e]
 unfold fx
 show ((0:Nat):Rat)/_=0
 have z:((0:Nat):Rat)=0:=rfl
 rw [z,Rat.div_def,Rat.zero_mul]
theorem fx0 (k:Nat):fx k 0=0:=by
 unfold fx
 show ((0:Nat):Rat)/_=0
 have z:((0:Nat):Rat)=0:=rfl
 rw [z,Rat.div_def,Rat.zero_mul]
theorem fx_ne {k X:Nat} (h:0<X):fx k X≠0:=by
 intro h0
 have h1:=fx_mul k X
 rw [h0,Rat.zero_mul] at h1
 have h2:(0:Rat)<(X:Rat):=natR_lt.2 h
 rw [←h1] at h2
 exact Rat.lt_irrefl h2
theorem abv_lt' {r:Rat} {k n:Nat} (hk:k≤4096) (hn:bitsN r.num.natAbs≤10000) (h:14100≤32*n):abv r k<4294967296^n:=by
 rw [show (4294967296:Nat)^n=2^(32*n) by rw [Nat.pow_mul]]
 refine Nat.pow_lt_pow_right (by decide) ?_
 have h:aboveE r k≤10001:=by
  unfold aboveE
  simp only []
  generalize bitsN r.num.natAbs=a at*
  generalize bitsN (dnOf r)=d at*
  rw [Int.fdiv_eq_ediv_of_nonneg _ (by decide)]
  split<;>split<;>omega
 omega
theorem abv_lt {r:Rat} {k:Nat} (hk:k≤4096) (hn:bitsN r.num.natAbs≤10000):abv r k<4294967296^1000:=abv_lt' (n:=1000) hk hn (by decide)
abbrev rdS (k i T:Nat):List (Nat×AV):= [(1,.one (.v (.int .i64 (k:Nat)))),(2,.one (.ptr 2 0)),(4,.one (.ptr 4 0)),(5,.one (.ptr 5 0)),(19,.one (.v (.int .i64 (T:Nat)))),(20,.one (.v (.int .i64 (i:Nat))))]
abbrev rdB (j:Nat) (r x:Rat):List (Nat×List C):= [(2,nmC j r),(4,[.v (.bool false),.v (.slice none 0 0),.v (.slice none 0 0)]),(5,nmC 1000 x)]
theorem c_quo0 {j k:Nat} {x:Rat} :Ctr Tryz.prog Amb 83 [nm j x,nm k 0] (.tup [.agg [.v (.bool false),.v (.slice none 0 0),.v (.slice none 0 0)],.one (.v (.int .i64 3))]):=
 ctr_2 fun W0 μ sz w u v ht hu hv=>by
  obtain ⟨h1,h2⟩:=cv_nm hu
  obtain ⟨h3,h4⟩:=cv_nm hv
  refine (quo_zero h1 h3 rfl).mono ?_
  rintro e w' ⟨rfl,k3⟩
  refine ⟨_,rfl,k3,[.agg #[.bool false,.slice none 0 0,.slice none 0 0],.int .i64 3],rfl,rfl,fun i a b ha hb=>?_⟩
  match i with
  | 0=>simp at ha hb;subst ha;subst hb;exact ⟨[.bool false,.slice none 0 0,.slice none 0 0],rfl,All2.self _⟩
  | 1=>simp at ha hb;subst ha;subst hb;rfl
  | i+2=>simp at ha
theorem s_rootDown {j:Nat} {r:Rat} {k:Nat} (hj:j≤1000) (hk:k≤4096) (hn:bitsN r.num.natAbs≤10000) (hd:bitsN r.den≤10000):Ctr Tryz.prog Amb 98 [nm j r,.one (.v (.int .i64 (k:Nat)))] (nm 1000 (rootR r k)):=by
 by_cases hr:0<r
 ·have hsg:sgnR r=1:=by rw [sgn_cmp];unfold cmpR;rw [if_neg (by grind),if_pos hr]
  have bp:=binLe (k:= .i64) (a:=sgnR r) (b:=0) (c:=false) (by rw [hsg];rfl)
  have hdn:bitsN (dnOf r)≤10000:=by unfold dnOf;split<;>first | (show (0:Nat)≤_;omega) | exact hd
  have A1:=s_above (j:=j) (x:=r) (k:=(k:Int)) (by omega) (by omega) (by omega) hn hdn
  rw [abv_eq] at A1
  have B1:=c_bits (j:=j) (x:=r) (by omega)
  have hX0:=abv_lt (r:=r) hk hn
  obtain ⟨bb,hbb⟩: ∃bb,bb=max (bitsN r.num.natAbs) (bitsN r.den):=⟨_,rfl⟩
  have hend:=fun X=>newton_end hr (k:=k) (X:=X)
  rw [←hbb] at B1
  simp only [←hbb] at hend
  have hbl:bb≤10000:=by omega
  clear hbb hn hd
  have hT:(IntKind.i64).wrap ((k:Int)+(bb:Int))=((k+bb:Nat):Int):=IntWalk.i64_in _ (by omega)
  have hT':=binAdd (k:= .i64) hT
  obtain ⟨T,hTT⟩: ∃T,T=k+bb:=⟨_,rfl⟩
  rw [←hTT] at hT'
  simp only [←hTT] at hend
  have hTl:T≤20000:=by omega
  obtain ⟨X0,hX⟩: ∃X0,X0=abv r k:=⟨_,rfl⟩
  have hlt:=isq_lt_abv hr k
  rw [←hX] at A1 hlt hX0
  simp only [←hX] at hend
  obtain ⟨s,hs⟩: ∃s,s=isq (nR r k):=⟨_,rfl⟩
  have hR:rootR r k=fx k s:=by rw [hs];rfl
  rw [hR]
  have hnew:=fun X=>newton_ge (n:=nR r k) (X:=X)
  have hstop:=fun X=>newton_stop (n:=nR r k) (X:=X)
  have hhalf:=fun X=>newton_half (n:=nR r k) (X:=X)
  have hquo:=fun X=>down_quo (Rat.le_of_lt hr) (k:=k) (X:=X)
  simp only [←hs] at hend hlt hnew hstop hhalf
  generalize nR r k=N at*
  clear hX hs hR hT hTT hr
  refine ctr_body Tryz.func98 rfl rfl rfl rfl rfl rfl ?_
  intro W0 base D μ0 hA hD
  repeat (first
   | refine aw_seq ?_ | refine aw_block ?_ | refine aw_condT rfl ?_ | refine aw_condF rfl ?_
   | ((first | refine aw_plainK (by kernel_rfl) ?_ | refine aw_drawK (by kernel_rfl) (by kernel_rfl) (by kernel_rfl) ?_)
      repeat (first
       | refine v_move (hl:=?_)
       | refine v_assign (hl:=?_)
       | refine v_load (hl:=?_)
       | refine v_store (hl:=?_)
       | refine v_box (hl:=?_)
       | refine v_alloc (hl:=?_)
       | refine v_buildS (hl:=?_)
       | refine v_buildA (hl:=?_)
       | refine v_extract (hl:=?_)
       | refine v_bin (hl:=?_)
       | refine v_call hA (hc:=c_sign) (hl:=?_)
       | refine v_call hA (hc:=A1) (hl:=?_)
       | refine v_call hA (hc:=B1) (hl:=?_))
      apply RunK.nil;try refine And.intro (by kernel_rfl) ?_)
   | refine aw_skip ?_ | refine aw_exit ?_)
  refine aw_loop (fun n σ=> ∃i X,n+i=T∧s≤X∧X≤X0∧(X-s)*2^i≤X0-s∧Wk ⟨W0,base,D,42,[],μ0⟩ σ (rdS k i T) (rdB j r (fx k X))) (n:=T) ⟨0,X0,rfl,by omega,Nat.le_refl _,by omega,?_⟩ ?_
  ·refine wk_mk ?_ ?_ rfl
   ·repeat (first | exact nil_all | (refine List.forall_mem_cons.2 ⟨?_,?_⟩;focus (first | exact Ent.of_eq rfl | (refine Ent.one' rfl ?_;(first | exact EntC.ratsLe (by omega) | exact EntC.ratsNil | exact EntC.glNil | (refine EntC.int ?_;omega) | (refine EntC.glLen ?_;first | omega | simp) | exact EntC.of_eq rfl | (refine EntC.q rfl ?_;omega) | exact Z0 _ | exact Z2 _ | exact EntC.z0 (k:=0) | exact EntC.z1 (k:=0) | exact EntC.z2 (k:=0) | exact EntC.z0 | exact EntC.z1 | exact EntC.z2)) | (refine Ent.agg' rfl ?_;(repeat (first | exact EntL.nil' rfl | (refine EntL.cons' rfl ?_ ?_;focus (first | exact EntC.ratsLe (by omega) | exact EntC.ratsNil | exact EntC.glNil | (refine EntC.int ?_;omega) | (refine EntC.glLen ?_;first | omega | simp) | exact EntC.of_eq rfl | (refine EntC.q rfl ?_;omega) | exact Z0 _ | exact Z2 _ | exact EntC.z0 (k:=0) | exact EntC.z1 (k:=0) | exact EntC.z2 (k:=0) | exact EntC.z0 | exact EntC.z1 | exact EntC.z2))));done))))
   ·repeat (first | exact nil_all | (refine List.forall_mem_cons.2 ⟨?_,?_⟩;focus (first | exact blk_keep inferInstance | (refine blk_ok rfl ?_ rfl;focus ((repeat (first | exact EntL.nil' rfl | (refine EntL.cons' rfl ?_ ?_;focus (first | exact EntC.ratsLe (by omega) | exact EntC.ratsNil | exact EntC.glNil | (refine EntC.int ?_;omega) | (refine EntC.glLen ?_;first | omega | simp) | exact EntC.of_eq rfl | (refine EntC.q rfl ?_;omega) | exact Z0 _ | exact Z2 _ | exact EntC.z0 (k:=0) | exact EntC.z1 (k:=0) | exact EntC.z2 (k:=0) | exact EntC.z0 | exact EntC.z1 | exact EntC.z2))));done)))))
  intro n σ hI
  obtain ⟨i,X,h1,h2,h4,h5,hw⟩:=hI
  refine aw_wk hw ?_
  clear hw A1 bp B1 hT'
  have hXl:X<4294967296^1000:=Nat.lt_of_le_of_lt h4 hX0
  have hsc:=scaleQ_nat hk
  by_cases hi:i<T
  ·have bi:=binLt (k:= .i64) (decide_eq_true (show (i:Int)<(T:Int) by omega))
   have hin:(IntKind.i64).wrap ((i:Int)+1)=((i+1:Nat):Int):=IntWalk.i64_in _ (by omega)
   have hin':=binAdd (k:= .i64) hin
   rcases Nat.eq_zero_or_pos X with h3 | h3
   ·subst h3
    have hs0:s=0:=by omega
    rw [hs0,fx0]
    have Q1:=c_quo0 (j:=j) (k:=1000) (x:=r)
    have D1:=c_down (j:=0) (x:=0) (s:=(k:Int)) (by omega)
    have M1:=c_mid (j:=1000) (k:=0+132) (x:=0) (y:=0) (by omega) (by omega)
    rw [hsc,down0] at D1
    rw [Rat.add_zero,Rat.zero_mul] at M1
    have D2:=c_down (j:=1000+(0+132)+4) (x:=0) (s:=(k:Int)) (by omega)
    rw [hsc,down0] at D2
    have C1:=c_cmp (j:=1000+(0+132)+4+132) (k:=1000) (x:=0) (y:=0) (by omega) (by omega)
    have bc:=binGe (k:= .i64) (a:=cmpR 0 0) (b:=0) (c:=true) (by decide+kernel)
    repeat (first
     | refine aw_seq ?_ | refine aw_block ?_ | refine aw_condT rfl ?_ | refine aw_condF rfl ?_
     | ((first | refine aw_plainK (by kernel_rfl) ?_ | refine aw_drawK (by kernel_rfl) (by kernel_rfl) (by kernel_rfl) ?_)
        repeat (first
         | refine v_move (hl:=?_)
         | refine v_assign (hl:=?_)
         | refine v_load (hl:=?_)
         | refine v_store (hl:=?_)
         | refine v_box (hl:=?_)
         | refine v_alloc (hl:=?_)
         | refine v_buildS (hl:=?_)
         | refine v_buildA (hl:=?_)
         | refine v_extract (hl:=?_)
         | refine v_bin (hl:=?_)
         | refine v_callE hA (hc:=Q1) (hl:=?_)
         | refine v_call hA (hc:=D1) (hl:=?_)
         | refine v_callE hA (hc:=M1) (hl:=?_)
         | refine v_callE hA (hc:=D2) (hl:=?_)
         | refine v_callE hA (hc:=C1) (hl:=?_))
        apply RunK.nil;try refine And.intro (by kernel_rfl) ?_)
     | refine aw_skip ?_ | refine aw_exit ?_)
    refine aw_ret (And.intro (Or.inr rfl) ?_)
    exact f_one
   ·have Q1:=c_quo (j:=j) (k:=1000) (x:=r) (y:=fx k X) (by omega) (by omega) (fx_ne h3)
    have D1:=c_down (j:=j+1000+2) (x:=r/fx k X) (s:=(k:Int)) (by omega)
    rw [hsc,hquo X h3] at D1
    have M1:=c_mid (j:=1000) (k:=j+1000+2+132) (x:=fx k X) (y:=fx k (N/X)) (by omega) (by omega)
    have D2:=c_down (j:=1000+(j+1000+2+132)+4) (x:=(fx k X+fx k (N/X))*ratOf false 1 2) (s:=(k:Int)) (by omega)
    rw [hsc,down_mid] at D2
    have hge:=hnew X h3
    have hst:=hstop X h3
    have hha:=hhalf X
    obtain ⟨Y,hY⟩: ∃Y,Y=(X+N/X)/2:=⟨_,rfl⟩
    rw [←hY] at D2 hge hst hha
    have C1:=c_cmp (j:=1000+(j+1000+2+132)+4+132) (k:=1000) (x:=fx k Y) (y:=fx k X) (by omega) (by omega)
    clear hY hquo hstop hhalf hnew
    by_cases hle:X≤Y
    ·have hXs:X=s:=hst hle h2
     have bc:=binGe (k:= .i64) (a:=cmpR (fx k Y) (fx k X)) (b:=0) (decide_eq_true (fx_cmp.2 hle))
     clear hst hha hge hle
     rw [←hXs]
     repeat (first
      | refine aw_seq ?_ | refine aw_block ?_ | refine aw_condT rfl ?_ | refine aw_condF rfl ?_
      | ((first | refine aw_plainK (by kernel_rfl) ?_ | refine aw_drawK (by kernel_rfl) (by kernel_rfl) (by kernel_rfl) ?_)
         repeat (first
          | refine v_move (hl:=?_)
          | refine v_assign (hl:=?_)
          | refine v_load (hl:=?_)
          | refine v_store (hl:=?_)
          | refine v_box (hl:=?_)
          | refine v_alloc (hl:=?_)
          | refine v_buildS (hl:=?_)
          | refine v_buildA (hl:=?_)
          | refine v_extract (hl:=?_)
          | refine v_bin (hl:=?_)
          | refine v_callE hA (hc:=Q1) (hl:=?_)
          | refine v_callE hA (hc:=D1) (hl:=?_)
          | refine v_callE hA (hc:=M1) (hl:=?_)
          | refine v_callE hA (hc:=D2) (hl:=?_)
          | refine v_callE hA (hc:=C1) (hl:=?_))
         apply RunK.nil;try refine And.intro (by kernel_rfl) ?_)
      | refine aw_skip ?_ | refine aw_exit ?_)
     refine aw_ret (And.intro (Or.inr rfl) ?_)
     exact f_one
    ·have bc:=binGe (k:= .i64) (a:=cmpR (fx k Y) (fx k X)) (b:=0) (decide_eq_false fun h=>hle (fx_cmp.1 h))
     have hha:=hha (by omega)
     have hYl:RSz 1000 (fx k Y):=fx_sz (by omega) (Nat.lt_of_le_of_lt (show Y≤X by omega) hXl)
     repeat (first
      | refine aw_seq ?_ | refine aw_block ?_ | refine aw_condT rfl ?_ | refine aw_condF rfl ?_
      | ((first | refine aw_plainK (by kernel_rfl) ?_ | refine aw_drawK (by kernel_rfl) (by kernel_rfl) (by kernel_rfl) ?_)
         repeat (first
          | refine v_move (hl:=?_)
          | refine v_assign (hl:=?_)
          | refine v_load (hl:=?_)
          | refine v_store (hl:=?_)
          | refine v_box (hl:=?_)
          | refine v_alloc (hl:=?_)
          | refine v_buildS (hl:=?_)
          | refine v_buildA (hl:=?_)
          | refine v_extract (hl:=?_)
          | refine v_bin (hl:=?_)
          | refine v_callE hA (hc:=Q1) (hl:=?_)
          | refine v_callE hA (hc:=D1) (hl:=?_)
          | refine v_callE hA (hc:=M1) (hl:=?_)
          | refine v_callE hA (hc:=D2) (hl:=?_)
          | refine v_callE hA (hc:=C1) (hl:=?_))
         apply RunK.nil;try refine And.intro (by kernel_rfl) ?_)
      | refine aw_skip ?_ | refine aw_exit ?_)
     refine ⟨n-1,by omega,i+1,Y,by omega,hge,by omega,?_,?_⟩
     ·have:=Nat.mul_le_mul_right (2^i) hha
      rw [Nat.pow_succ]
      generalize 2^i=p at*
      rw [show (Y-s)*(p*2)=(Y-s)*2*p by grind]
      omega
     ·refine wk_mk ?_ ?_ rfl
      ·repeat (first | exact nil_all | (refine List.forall_mem_cons.2 ⟨?_,?_⟩;focus (first | exact Ent.of_eq rfl | (refine Ent.one' rfl ?_;(first | exact EntC.ratsLe (by omega) | exact EntC.ratsNil | exact EntC.glNil | (refine EntC.int ?_;omega) | (refine EntC.glLen ?_;first | omega | simp) | exact EntC.qs hYl | exact EntC.of_eq rfl | (refine EntC.q rfl ?_;omega) | exact Z0 _ | exact Z2 _ | exact EntC.z0 (k:=0) | exact EntC.z1 (k:=0) | exact EntC.z2 (k:=0) | exact EntC.z0 | exact EntC.z1 | exact EntC.z2)) | (refine Ent.agg' rfl ?_;(repeat (first | exact EntL.nil' rfl | (refine EntL.cons' rfl ?_ ?_;focus (first | exact EntC.ratsLe (by omega) | exact EntC.ratsNil | exact EntC.glNil | (refine EntC.int ?_;omega) | (refine EntC.glLen ?_;first | omega | simp) | exact EntC.qs hYl | exact EntC.of_eq rfl | (refine EntC.q rfl ?_;omega) | exact Z0 _ | exact Z2 _ | exact EntC.z0 (k:=0) | exact EntC.z1 (k:=0) | exact EntC.z2 (k:=0) | exact EntC.z0 | exact EntC.z1 | exact EntC.z2))));done))))
      ·repeat (first | exact nil_all | (refine List.forall_mem_cons.2 ⟨?_,?_⟩;focus (first | exact blk_keep inferInstance | (refine blk_ok rfl ?_ rfl;focus ((repeat (first | exact EntL.nil' rfl | (refine EntL.cons' rfl ?_ ?_;focus (first | exact EntC.ratsLe (by omega) | exact EntC.ratsNil | exact EntC.glNil | (refine EntC.int ?_;omega) | (refine EntC.glLen ?_;first | omega | simp) | exact EntC.qs hYl | exact EntC.of_eq rfl | (refine EntC.q rfl ?_;omega) | exact Z0 _ | exact Z2 _ | exact EntC.z0 (k:=0) | exact EntC.z1 (k:=0) | exact EntC.z2 (k:=0) | exact EntC.z0 | exact EntC.z1 | exact EntC.z2))));done)))))
  ·have bi:=binLt (k:= .i64) (decide_eq_false (show ¬(i:Int)<(T:Int) by omega))
   obtain rfl:i=T:=by omega
   have hXs:X=s:=hend X h2 h5
   rw [←hXs]
   repeat (first
    | refine aw_seq ?_ | refine aw_block ?_ | refine aw_condT rfl ?_ | refine aw_condF rfl ?_
    | ((first | refine aw_plainK (by kernel_rfl) ?_ | refine aw_drawK (by kernel_rfl) (by kernel_rfl) (by kernel_rfl) ?_)
       repeat (first
        | refine v_move (hl:=?_)
        | refine v_assign (hl:=?_)
        | refine v_load (hl:=?_)
        | refine v_store (hl:=?_)
        | refine v_box (hl:=?_)
        | refine v_alloc (hl:=?_)
        | refine v_buildS (hl:=?_)
        | refine v_buildA (hl:=?_)
        | refine v_extract (hl:=?_)
        | refine v_bin (hl:=?_))
       apply RunK.nil;try refine And.intro (by kernel_rfl) ?_)
    | refine aw_skip ?_ | refine aw_exit ?_)
   refine aw_ret (And.intro (Or.inr rfl) ?_)
   exact f_one
 ·have hsg:sgnR r≤0:=by
   rw [sgn_cmp]
   unfold cmpR
   split
   ·omega
   ·first | omega | (rw [if_neg hr];omega)
  have bp:=binLe (k:= .i64) (decide_eq_true hsg)
  rw [rootR_neg hr]
  refine ctr_body Tryz.func98 rfl rfl rfl rfl rfl rfl ?_
  intro W0 base D μ0 hA hD
  repeat (first
   | refine aw_seq ?_ | refine aw_block ?_ | refine aw_condT rfl ?_ | refine aw_condF rfl ?_
   | ((first | refine aw_plainK (by kernel_rfl) ?_ | refine aw_drawK (by kernel_rfl) (by kernel_rfl) (by kernel_rfl) ?_)
      repeat (first
       | refine v_move (hl:=?_)
       | refine v_assign (hl:=?_)
       | refine v_load (hl:=?_)
       | refine v_store (hl:=?_)
       | refine v_box (hl:=?_)
       | refine v_alloc (hl:=?_)
       | refine v_buildS (hl:=?_)
       | refine v_buildA (hl:=?_)
       | refine v_extract (hl:=?_)
       | refine v_bin (hl:=?_)
       | refine v_call hA (hc:=c_sign) (hl:=?_))
      apply RunK.nil;try refine And.intro (by kernel_rfl) ?_)
   | refine aw_skip ?_ | refine aw_exit ?_)
  refine aw_ret (And.intro (Or.inr rfl) ?_)
  exact f_one
end Go.Proofs.YtgdlialkjiblpaaGreatDoor
namespace Go.Proofs.YtgdlialkjiblpaaGreatDoor
open Go.RowKit
set_option linter.unusedVariables false
set_option linter.unusedSimpArgs false
set_option maxRecDepth 20000
set_option maxHeartbeats 4000000
def rootH (r:Rat) (k:Nat):Rat:=if rootR r k*rootR r k=r then rootR r k else rootR r k+twoPow (-(k:Int))
theorem s_root {j1 j2:Nat} {a b:Rat} {k:Int} (h1:j1≤1000) (h2:j2≤1000) (n1:bitsN a.num.natAbs≤10000) (d1:bitsN a.den≤10000) (n2:bitsN b.num.natAbs≤10000) (d2:bitsN b.den≤10000):
  Ctr Tryz.prog Amb 50 [sp j1 a j2 b,.one (.v (.int .i64 k))] (if sgnR b<0 then .tup [sp 0 0 0 0,.one (.v (.int .i64 7))] else .tup [sp 1000 (rootR a (scaleQ k)) 3000 (rootH b (scaleQ k)),.one (.v (.int .i64 0))]):=by
 by_cases hb:sgnR b<0
 ·have bp:=binLt (k:= .i64) (decide_eq_true hb)
  rw [if_pos hb]
  refine ctr_body Tryz.func50 rfl rfl rfl rfl rfl rfl ?_
  intro W0 base D μ0 hA hD
  repeat (first
   | refine aw_seq ?_ | refine aw_block ?_ | refine aw_condT rfl ?_ | refine aw_condF rfl ?_
   | ((first | refine aw_plainK (by kernel_rfl) ?_ | refine aw_drawK (by kernel_rfl) (by kernel_rfl) (by kernel_rfl) ?_)
      repeat (first
       | refine v_move (hl:=?_)
       | refine v_assign (hl:=?_)
       | refine v_load (hl:=?_)
       | refine v_fieldAddr (hl:=?_)
       | refine v_store (hl:=?_)
       | refine v_box (hl:=?_)
       | refine v_alloc (hl:=?_)
       | refine v_buildS (hl:=?_)
       | refine v_buildA (hl:=?_)
       | refine v_bin (hl:=?_)
       | refine v_not (hl:=?_)
       | refine v_neg' (hl:=?_)
       | refine v_max (hl:=?_)
       | refine v_min (hl:=?_)
       | refine v_len (hl:=?_)
       | refine v_call hA (hc:=c_sign) (hl:=?_))
      apply RunK.nil;try refine And.intro (by kernel_rfl) ?_)
   | refine aw_skip ?_ | refine aw_exit ?_)
  refine aw_ret (And.intro (Or.inr rfl) ?_)
  exact f_two
 have bp:=binLt (k:= .i64) (decide_eq_false hb)
 rw [if_neg hb]
 obtain ⟨m,hm⟩: ∃m:Int,(if k<4096 then k else 4096)=m:=⟨_,rfl⟩
 obtain ⟨K,hK⟩: ∃K,K=scaleQ k:=⟨_,rfl⟩
 have hK1:K≤4096:=by rw [hK];exact scaleQ_le k
 have hm2:(if 0<m then m else 0)=(K:Int):=by
  rw [hK];unfold scaleQ
  split at hm<;>split<;>omega
 have hneg:(IntKind.i64).wrap (0-(K:Int))= -(K:Int):=by rw [show 0-(K:Int)= -(K:Int) by omega];exact IntWalk.i64_in _ (by omega)
 have R1:=s_rootDown (j:=j1) (r:=a) (k:=K) h1 hK1 n1 d1
 have R2:=s_rootDown (j:=j2) (r:=b) (k:=K) h2 hK1 n2 d2
 have P1:=s_pow (n:= -(K:Int)) (by omega) (by omega)
 rw [←hK]
 clear hK
 unfold rootH
 generalize twoPow (-(K:Int))=e at*
 by_cases hab:a=b
 ·subst hab
  have S1:=c_same' (j:=j1) (k:=j2) (x:=a) (y:=a) (decide_eq_true rfl)
  generalize rootR a K=t at*
  by_cases hsq:t*t=a
  ·have S2:=c_same' (j:=1000+1000+2) (k:=j2) (decide_eq_true hsq)
   rw [if_pos hsq]
   refine ctr_body Tryz.func50 rfl rfl rfl rfl rfl rfl ?_
   intro W0 base D μ0 hA hD
   repeat (first
    | refine aw_seq ?_ | refine aw_block ?_ | refine aw_condT rfl ?_ | refine aw_condF rfl ?_
    | ((first | refine aw_plainK (by kernel_rfl) ?_ | refine aw_drawK (by kernel_rfl) (by kernel_rfl) (by kernel_rfl) ?_)
       repeat (first
        | refine v_move (hl:=?_)
        | refine v_assign (hl:=?_)
        | refine v_load (hl:=?_)
        | refine v_fieldAddr (hl:=?_)
        | refine v_store (hl:=?_)
        | refine v_box (hl:=?_)
        | refine v_alloc (hl:=?_)
        | refine v_buildS (hl:=?_)
        | refine v_buildA (hl:=?_)
        | refine v_bin (hl:=?_)
        | refine v_not (hl:=?_)
        | refine v_neg' (hl:=?_)
        | refine v_max (hl:=?_)
        | refine v_min (hl:=?_)
        | refine v_len (hl:=?_)
        | refine v_call hA (hc:=c_sign) (hl:=?_)
        | refine v_callE hA (hc:=R1) (hl:=?_)
        | refine v_callE hA (hc:=S1) (hl:=?_)
        | (refine v_call hA (hc:=c_mul ?_ ?_) (hl:=?_);omega;omega)
        | refine v_callE hA (hc:=S2) (hl:=?_)
        | (refine v_call hA (hc:=s_copied ?_) (hl:=?_);omega))
       apply RunK.nil;try refine And.intro (by kernel_rfl) ?_)
    | refine aw_skip ?_ | refine aw_exit ?_)
   refine aw_ret (And.intro (Or.inr rfl) ?_)
   exact f_two
  ·have S2:=c_same' (j:=1000+1000+2) (k:=j2) (decide_eq_false hsq)
   rw [if_neg hsq]
   refine ctr_body Tryz.func50 rfl rfl rfl rfl rfl rfl ?_
   intro W0 base D μ0 hA hD
   repeat (first
    | refine aw_seq ?_ | refine aw_block ?_ | refine aw_condT rfl ?_ | refine aw_condF rfl ?_
    | ((first | refine aw_plainK (by kernel_rfl) ?_ | refine aw_drawK (by kernel_rfl) (by kernel_rfl) (by kernel_rfl) ?_)
       repeat (first
        | refine v_move (hl:=?_)
        | refine v_assign (hl:=?_)
        | refine v_load (hl:=?_)
        | refine v_fieldAddr (hl:=?_)
        | refine v_store (hl:=?_)
        | refine v_box (hl:=?_)
        | refine v_alloc (hl:=?_)
        | refine v_buildS (hl:=?_)
        | refine v_buildA (hl:=?_)
        | refine v_bin (hl:=?_)
        | refine v_not (hl:=?_)
        | refine v_neg' (hl:=?_)
        | refine v_max (hl:=?_)
        | refine v_min (hl:=?_)
        | refine v_len (hl:=?_)
        | refine v_call hA (hc:=c_sign) (hl:=?_)
        | refine v_callE hA (hc:=R1) (hl:=?_)
        | refine v_callE hA (hc:=S1) (hl:=?_)
        | (refine v_call hA (hc:=c_mul ?_ ?_) (hl:=?_);omega;omega)
        | refine v_callE hA (hc:=S2) (hl:=?_)
        | refine v_callE hA (hc:=P1) (hl:=?_)
        | (refine v_call hA (hc:=c_add ?_ ?_) (hl:=?_);omega;omega))
       apply RunK.nil;try refine And.intro (by kernel_rfl) ?_)
    | refine aw_skip ?_ | refine aw_exit ?_)
   refine aw_ret (And.intro (Or.inr rfl) ?_)
   exact f_two
 ·have S1:=c_same' (j:=j1) (k:=j2) (x:=a) (y:=b) (decide_eq_false hab)
  generalize rootR a K=t at*
  generalize rootR b K=u at*
  by_cases hsq:u*u=b
  ·have S2:=c_same' (j:=1000+1000+2) (k:=j2) (decide_eq_true hsq)
   rw [if_pos hsq]
   refine ctr_body Tryz.func50 rfl rfl rfl rfl rfl rfl ?_
   intro W0 base D μ0 hA hD
   repeat (first
    | refine aw_seq ?_ | refine aw_block ?_ | refine aw_condT rfl ?_ | refine aw_condF rfl ?_
    | ((first | refine aw_plainK (by kernel_rfl) ?_ | refine aw_drawK (by kernel_rfl) (by kernel_rfl) (by kernel_rfl) ?_)
       repeat (first
        | refine v_move (hl:=?_)
        | refine v_assign (hl:=?_)
        | refine v_load (hl:=?_)
        | refine v_fieldAddr (hl:=?_)
        | refine v_store (hl:=?_)
        | refine v_box (hl:=?_)
        | refine v_alloc (hl:=?_)
        | refine v_buildS (hl:=?_)
        | refine v_buildA (hl:=?_)
        | refine v_bin (hl:=?_)
        | refine v_not (hl:=?_)
        | refine v_neg' (hl:=?_)
        | refine v_max (hl:=?_)
        | refine v_min (hl:=?_)
        | refine v_len (hl:=?_)
        | refine v_call hA (hc:=c_sign) (hl:=?_)
        | refine v_callE hA (hc:=R1) (hl:=?_)
        | refine v_callE hA (hc:=R2) (hl:=?_)
        | refine v_callE hA (hc:=S1) (hl:=?_)
        | (refine v_call hA (hc:=c_mul ?_ ?_) (hl:=?_);omega;omega)
        | refine v_callE hA (hc:=S2) (hl:=?_)
        | (refine v_call hA (hc:=s_copied ?_) (hl:=?_);omega))
       apply RunK.nil;try refine And.intro (by kernel_rfl) ?_)
    | refine aw_skip ?_ | refine aw_exit ?_)
   refine aw_ret (And.intro (Or.inr rfl) ?_)
   exact f_two
  ·have S2:=c_same' (j:=1000+1000+2) (k:=j2) (decide_eq_false hsq)
   rw [if_neg hsq]
   refine ctr_body Tryz.func50 rfl rfl rfl rfl rfl rfl ?_
   intro W0 base D μ0 hA hD
   repeat (first
    | refine aw_seq ?_ | refine aw_block ?_ | refine aw_condT rfl ?_ | refine aw_condF rfl ?_
    | ((first | refine aw_plainK (by kernel_rfl) ?_ | refine aw_drawK (by kernel_rfl) (by kernel_rfl) (by kernel_rfl) ?_)
       repeat (first
        | refine v_move (hl:=?_)
        | refine v_assign (hl:=?_)
        | refine v_load (hl:=?_)
        | refine v_fieldAddr (hl:=?_)
        | refine v_store (hl:=?_)
        | refine v_box (hl:=?_)
        | refine v_alloc (hl:=?_)
        | refine v_buildS (hl:=?_)
        | refine v_buildA (hl:=?_)
        | refine v_bin (hl:=?_)
        | refine v_not (hl:=?_)
        | refine v_neg' (hl:=?_)
        | refine v_max (hl:=?_)
        | refine v_min (hl:=?_)
        | refine v_len (hl:=?_)
        | refine v_call hA (hc:=c_sign) (hl:=?_)
        | refine v_callE hA (hc:=R1) (hl:=?_)
        | refine v_callE hA (hc:=R2) (hl:=?_)
        | refine v_callE hA (hc:=S1) (hl:=?_)
        | (refine v_call hA (hc:=c_mul ?_ ?_) (hl:=?_);omega;omega)
        | refine v_callE hA (hc:=S2) (hl:=?_)
        | refine v_callE hA (hc:=P1) (hl:=?_)
        | (refine v_call hA (hc:=c_add ?_ ?_) (hl:=?_);omega;omega))
       apply RunK.nil;try refine And.intro (by kernel_rfl) ?_)
    | refine aw_skip ?_ | refine aw_exit ?_)
   refine aw_ret (And.intro (Or.inr rfl) ?_)
   exact f_two
section
variable {P:Program} {X:Ctx} {ops l:List Oper} {σ:St} {K:List Eff→St→Prop} {dst:Option Tmp} {ty:TypeId} {pos:String} {af:Array Edge} {gd:Option (Nat×Bool)}
theorem pure_eqS {s:Nat→AV} {t u:TypeId} {x y:Operand} {a b:ByteArray} (hx:evC s x= .one (.v (.string a))) (hy:evC s y= .one (.v (.string b))) (hab:a=b):Pure P ⟨dst,.binOp .eql t x y u,ty,pos,af,gd⟩ s (.one (.v (.bool true))):=fun W0 μ sz w ρ hρ=>by
 have h:=hρ x (by simp [Op.operands])
 rw [hx] at h
 replace h:ρ x= .string a:=h
 have h':=hρ y (by simp [Op.operands])
 rw [hy] at h'
 replace h':ρ y= .string b:=h'
 refine ⟨.bool true,?_,rfl⟩
 have h4:(binOp .eql t (.string a) (.string b)).run P w= .ok (.bool true) w:=by
  show (Op.stringOp .eql a b).run P w=_
  rw [hab]
  show Result.ok (Value.bool (b.toList==b.toList)) w=_
  rw [beq_self_eq_true]
 have h5:(eqGuard .eql t x y (.string a) (.string b)).run P w= .ok () w:=rfl
 show (do let v←(do eqGuard .eql t x y (ρ x) (ρ y);binOp .eql t (ρ x) (ρ y):Sem Value);pure (Next.value v):Sem Next).run P w=_
 rw [h,h',Sem.run_bind,Sem.run_bind,h5,Result.andThen_ok,h4]
 rfl
theorem u_eqS {t u:TypeId} {x y:Operand} {a b:ByteArray} (hg:gOk ops σ.s gd) (hd:dB X.n dst=true) (hx:evC σ.s x= .one (.v (.string a))) (hy:evC σ.s y= .one (.v (.string b))) (hc:a=b) (hl:RunK P X ops l (σ.app dst ⟨.one (.v (.bool true)),[],[],[]⟩) (fun es σ'=>K (⟨.one (.v (.bool true)),[],[],[]⟩::es) σ')):
  RunK P X ops (⟨dst,.binOp .eql t x y u,ty,pos,af,gd⟩::l) σ K:=u_pure (o:=⟨dst,.binOp .eql t x y u,ty,pos,af,gd⟩) hg hd (pure_eqS hx hy hc) hl
end
theorem r_text' {j:Nat} {x:Rat} {s:ByteArray} (hj:j≤100000) (h:(textR x).toArray=s.data):Ctr Tryz.prog Amb 52 [nm j x] (.one (.v (.string s))):=by
 have:=r_text (x:=x) hj
 rw [h] at this
 exact this
theorem awake3:Ctr Tryz.prog Amb 10 [] (.one (.v (.bool true))):=by
 have e2:((2:Int):Rat)=2:=rfl
 have e1:((-1:Int):Rat)= -1:=rfl
 have e3:((3:Int):Rat)=3:=rfl
 have e4:((4:Int):Rat)=4:=rfl
 have I1:=r_int (n:=2) rfl
 have I2:=r_int (n:= -1) rfl
 have I3:=r_int (n:=3) rfl
 have I4:=r_int (n:=4) rfl
 rw [e2] at I1
 rw [e1] at I2
 rw [e3] at I3
 rw [e4] at I4
 have O1:=s_of (j1:=2) (j2:=2) (a:=2) (b:= -1) (by decide) (by decide)
 rw [show mn 2 (-1)= -1 by decide+kernel,show mx 2 (-1)=2 by decide+kernel] at O1
 have O2:=s_of (j1:=2) (j2:=2) (a:=3) (b:=4) (by decide) (by decide)
 rw [show mn 3 4=3 by decide+kernel,show mx 3 4=4 by decide+kernel] at O2
 have M1:=s_mul (j1:=2+2+1) (j2:=2+2+1) (j3:=2+2+1) (j4:=2+2+1) (a:= -1) (b:=2) (c:=3) (d:=4) (by decide) (by decide) (by decide) (by decide)
 rw [show (mulS (-1) 2 3 4).1= -4 by decide+kernel] at M1
 have Q1:=s_sqr (j1:=2+2+1) (j2:=2+2+1) (a:= -1) (b:=2) (by decide) (by decide)
 rw [show (sqrS (-1) 2).2=4 by decide+kernel] at Q1
 have P1:=s_point (j1:=2) (a:=2) (by decide)
 have R1:=s_root (j1:=2+2+1) (j2:=2+2+1) (a:=2) (b:=2) (k:=2) (by decide) (by decide) (by decide+kernel) (by decide+kernel) (by decide+kernel) (by decide+kernel)
 rw [if_neg (by decide+kernel),show rootR 2 (scaleQ 2)=5/4 by decide+kernel,show rootH 2 (scaleQ 2)=3/2 by decide+kernel] at R1
 have T1:=r_text' (j:=2*(2+2+1+(2+2+1)+(2+2+1)+(2+2+1))+5) (x:= -4) (s:= { data:= #[45,52] }) (by decide) (by decide+kernel)
 have T2:=r_text' (j:=2*(2+2+1+(2+2+1))+5) (x:=4) (s:= { data:= #[52] }) (by decide) (by decide+kernel)
 have T3:=r_text' (j:=1000) (x:=5/4) (s:= { data:= #[53,47,52] }) (by decide) (by decide+kernel)
 have T4:=r_text' (j:=3000) (x:=3/2) (s:= { data:= #[51,47,50] }) (by decide) (by decide+kernel)
 generalize (mulS (-1) 2 3 4).2=y1 at M1
 generalize (sqrS (-1) 2).1=y2 at Q1
 refine ctr_body Tryz.func10 rfl rfl rfl rfl rfl rfl ?_
 intro W0 base D μ0 hA hD
 repeat (first
  | refine aw_seq ?_ | refine aw_block ?_ | refine aw_condT rfl ?_ | refine aw_condF rfl ?_
  | (refine aw_plainK (by kernel_rfl) ?_
     repeat (first
      | refine v_skip (hl:=?_)
      | refine v_move (hl:=?_)
      | refine v_assign (hl:=?_)
      | refine v_load (hl:=?_)
      | refine v_fieldAddr (hl:=?_)
      | refine v_store (hl:=?_)
      | refine v_alloc (hl:=?_)
      | refine v_extract (hl:=?_)
      | refine v_bin (hl:=?_)
      | refine v_field (hl:=?_)
      | refine v_pickT (hl:=?_)
      | refine v_pickF (hl:=?_)
      | refine v_eqBool (hl:=?_)
      | refine v_callE hA (hc:=I1) (hl:=?_)
      | refine v_callE hA (hc:=I2) (hl:=?_)
      | refine v_callE hA (hc:=I3) (hl:=?_)
      | refine v_callE hA (hc:=I4) (hl:=?_)
      | refine v_callE hA (hc:=O1) (hl:=?_)
      | refine v_callE hA (hc:=O2) (hl:=?_)
      | refine v_callE hA (hc:=M1) (hl:=?_)
      | refine v_callE hA (hc:=Q1) (hl:=?_)
      | refine v_callE hA (hc:=P1) (hl:=?_)
      | refine v_callE hA (hc:=R1) (hl:=?_)
      | refine v_callE hA (hc:=T1) (hl:=?_)
      | refine v_callE hA (hc:=T2) (hl:=?_)
      | refine v_callE hA (hc:=T3) (hl:=?_)
      | refine v_callE hA (hc:=T4) (hl:=?_)
      | (apply u_eqS;(case hg=>(first | exact trivial | exact rfl));(case hd=>exact rfl);(case hx=>exact rfl);(case hy=>exact rfl);(case hc=>exact rfl)))
     apply RunK.nil)
  | refine aw_skip ?_ | refine aw_exit ?_)
 refine aw_ret (And.intro (Or.inr rfl) ?_)
 exact f_one
end Go.Proofs.YtgdlialkjiblpaaGreatDoor
