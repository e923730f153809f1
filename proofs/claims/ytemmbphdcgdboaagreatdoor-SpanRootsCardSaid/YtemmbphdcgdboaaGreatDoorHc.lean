/-
  Several texts in one: Tm, Tq.
-/
import Derived.Test.YtemmbphdcgdboaaGreatDoorHb
import Derived.Test.YtemmbphdcgdboaaGreatDoorHa
namespace Go.Proofs.YtemmbphdcgdboaaGreatDoor
set_option linter.unusedVariables false
set_option maxHeartbeats 4000000
theorem sgr_le {x:Rat} :sgnR x≤0↔x≤0:=by rw [sgn_cmp];exact cmp_le0
theorem sgr_ge {x:Rat} :0≤sgnR x↔0≤x:=by
 rw [sgn_cmp,ord_neg]
 have:=cmp_le0 (x:=0) (y:=x)
 constructor
 ·intro h;exact this.1 (by omega)
 ·intro h;have:=this.2 h;omega
theorem sgr_lt {x:Rat} :sgnR x<0↔x<0:=by
 have:=sgr_ge (x:=x)
 constructor
 ·intro h
  have h1: ¬0≤x:=fun h2=>by have:=this.2 h2;omega
  grind
 ·intro h
  have h1: ¬0≤sgnR x:=fun h2=>by have:=this.1 h2;grind
  omega
def Least (m p q r s:Rat):Prop:=m≤p∧m≤q∧m≤r∧m≤s∧(m=p∨m=q∨m=r∨m=s)
def Most (m p q r s:Rat):Prop:=p≤m∧q≤m∧r≤m∧s≤m∧(m=p∨m=q∨m=r∨m=s)
theorem Least.uniq {m n p q r s:Rat} (h:Least m p q r s) (h2:Least n p q r s):m=n:=by
 obtain ⟨a1,a2,a3,a4,a5⟩:=h
 obtain ⟨b1,b2,b3,b4,b5⟩:=h2
 rcases a5 with e | e | e | e<;>rcases b5 with f | f | f | f<;>grind
theorem Most.uniq {m n p q r s:Rat} (h:Most m p q r s) (h2:Most n p q r s):m=n:=by
 obtain ⟨a1,a2,a3,a4,a5⟩:=h
 obtain ⟨b1,b2,b3,b4,b5⟩:=h2
 rcases a5 with e | e | e | e<;>rcases b5 with f | f | f | f<;>grind
theorem mulT_least (a b c d:Rat):Least (mulT a b c d).1 (a*c) (a*d) (b*c) (b*d):=by
 unfold mulT Least
 simp only []
 generalize a*c=p
 generalize a*d=q
 generalize b*c=r
 generalize b*d=s
 rcases mn_cases p q with ⟨e1,g1⟩ | ⟨e1,g1⟩<;>rw [e1]
 ·rcases mn_cases p r with ⟨e2,g2⟩ | ⟨e2,g2⟩<;>rw [e2]
  ·rcases mn_cases p s with ⟨e3,g3⟩ | ⟨e3,g3⟩<;>rw [e3]<;>grind
  ·rcases mn_cases r s with ⟨e3,g3⟩ | ⟨e3,g3⟩<;>rw [e3]<;>grind
 ·rcases mn_cases q r with ⟨e2,g2⟩ | ⟨e2,g2⟩<;>rw [e2]
  ·rcases mn_cases q s with ⟨e3,g3⟩ | ⟨e3,g3⟩<;>rw [e3]<;>grind
  ·rcases mn_cases r s with ⟨e3,g3⟩ | ⟨e3,g3⟩<;>rw [e3]<;>grind
theorem mulT_most (a b c d:Rat):Most (mulT a b c d).2 (a*c) (a*d) (b*c) (b*d):=by
 unfold mulT Most
 simp only []
 generalize a*c=p
 generalize a*d=q
 generalize b*c=r
 generalize b*d=s
 rcases mx_cases p q with ⟨e1,g1⟩ | ⟨e1,g1⟩<;>rw [e1]
 ·rcases mx_cases p r with ⟨e2,g2⟩ | ⟨e2,g2⟩<;>rw [e2]
  ·rcases mx_cases p s with ⟨e3,g3⟩ | ⟨e3,g3⟩<;>rw [e3]<;>grind
  ·rcases mx_cases r s with ⟨e3,g3⟩ | ⟨e3,g3⟩<;>rw [e3]<;>grind
 ·rcases mx_cases q r with ⟨e2,g2⟩ | ⟨e2,g2⟩<;>rw [e2]
  ·rcases mx_cases q s with ⟨e3,g3⟩ | ⟨e3,g3⟩<;>rw [e3]<;>grind
  ·rcases mx_cases r s with ⟨e3,g3⟩ | ⟨e3,g3⟩<;>rw [e3]<;>grind
theorem edge {a c d:Rat} (h:c≤d):(0≤a→a*c≤a*d)∧(a≤0→a*d≤a*c):=by
 constructor<;>intro h0
 ·have:=Rat.mul_nonneg h0 (show 0≤d-c by grind);grind
 ·have:=Rat.mul_nonneg (show 0≤ -a by grind) (show 0≤d-c by grind);grind
theorem mul1_ok {a b c d:Rat} (h1:a≤b) (h2:c≤d) (hs:(0≤a∨b≤0)∨(a<0∧0<b∧c<0∧0<d)):Least (mul1 a b c d).1 (a*c) (a*d) (b*c) (b*d)∧Most (mul1 a b c d).2 (a*c) (a*d) (b*c) (b*d):=by
 have e1:=edge (a:=a) h2
 have e2:=edge (a:=b) h2
 have e3:=edge (a:=c) h1
 have e4:=edge (a:=d) h1
 rw [Rat.mul_comm c a,Rat.mul_comm c b] at e3
 rw [Rat.mul_comm d a,Rat.mul_comm d b] at e4
 unfold mul1 Lp Gp Least Most
 simp only [sgr_lt,sgr_ge,sgr_le]
 generalize a*c=p at*
 generalize a*d=q at*
 generalize b*c=r at*
 generalize b*d=s at*
 by_cases ha:0≤a
 ·rw [if_pos ha]
  by_cases hc:c<0<;>by_cases hd:d<0<;>simp only [hc,hd,if_true,if_false]<;>grind
 ·rw [if_neg ha]
  by_cases hb:b≤0
  ·rw [if_pos hb]
   by_cases hc:c<0<;>by_cases hd:d<0<;>simp only [hc,hd,if_true,if_false]<;>grind
  ·rw [if_neg hb]
   have hc:c<0:=by grind
   have hd: ¬d<0:=by grind
   simp only [hc,hd,if_true,if_false]
   rcases mn_cases r q with ⟨f1,g1⟩ | ⟨f1,g1⟩<;>rcases mx_cases p s with ⟨f2,g2⟩ | ⟨f2,g2⟩<;>rw [f1,f2]<;>grind
theorem mulS_ok {a b c d:Rat} (h1:a≤b) (h2:c≤d):Least (mulS a b c d).1 (a*c) (a*d) (b*c) (b*d)∧Most (mulS a b c d).2 (a*c) (a*d) (b*c) (b*d):=by
 unfold mulS
 by_cases hs:0≤sgnR a∨sgnR b≤0
 ·rw [if_pos hs]
  rw [sgr_ge,sgr_le] at hs
  exact mul1_ok h1 h2 (.inl hs)
 ·rw [if_neg hs]
  rw [sgr_ge,sgr_le] at hs
  have k:(0≤c∨d≤0)∨(c<0∧0<d∧a<0∧0<b):=by grind
  obtain ⟨⟨l1,l2,l3,l4,l5⟩,m1,m2,m3,m4,m5⟩:=mul1_ok h2 h1 k
  rw [Rat.mul_comm c a,Rat.mul_comm d a,Rat.mul_comm c b,Rat.mul_comm d b] at*
  exact ⟨⟨l1,l3,l2,l4,by grind⟩,m1,m3,m2,m4,by grind⟩
theorem mulS_T {a b c d:Rat} (h1:a≤b) (h2:c≤d):mulS a b c d=mulT a b c d:=
 Prod.ext ((mulS_ok h1 h2).1.uniq (mulT_least a b c d)) ((mulS_ok h1 h2).2.uniq (mulT_most a b c d))
theorem mulS_has {a b c d x y:Rat} (hx1:a≤x) (hx2:x≤b) (hy1:c≤y) (hy2:y≤d):(mulS a b c d).1≤x*y∧x*y≤(mulS a b c d).2:=by
 obtain ⟨⟨l1,l2,l3,l4,l5⟩,m1,m2,m3,m4,m5⟩:=mulS_ok (a:=a) (b:=b) (c:=c) (d:=d) (by grind) (by grind)
 generalize (mulS a b c d).1=u at*
 generalize (mulS a b c d).2=v at*
 have e1:=edge (a:=y) hx1
 have e2:=edge (a:=y) hx2
 have e3:=edge (a:=a) hy1
 have e4:=edge (a:=a) hy2
 have e5:=edge (a:=b) hy1
 have e6:=edge (a:=b) hy2
 rw [Rat.mul_comm y a,Rat.mul_comm y x] at e1
 rw [Rat.mul_comm y b,Rat.mul_comm y x] at e2
 generalize a*c=p at*
 generalize a*d=q at*
 generalize b*c=r at*
 generalize b*d=s at*
 generalize a*y=ay at*
 generalize b*y=b_y at*
 generalize x*y=z at*
 have k1:u≤ay∧ay≤v:=by clear e1 e2 e5 e6 l5 m5;grind
 have k2:u≤b_y∧b_y≤v:=by clear e1 e2 e3 e4 l5 m5;grind
 have k3:y≤0∨0≤y:=by grind
 clear e3 e4 e5 e6 l5 m5
 rcases k3 with k3 | k3<;>grind
theorem mulS_in {a b c d x y z w:Rat} (h1:a≤x) (h2:x≤y) (h3:y≤b) (h4:c≤z) (h5:z≤w) (h6:w≤d):(mulS a b c d).1≤(mulS x y z w).1∧(mulS x y z w).2≤(mulS a b c d).2:=by
 obtain ⟨⟨l1,l2,l3,l4,l5⟩,m1,m2,m3,m4,m5⟩:=mulS_ok h2 h5
 have k1:=mulS_has (a:=a) (b:=b) (c:=c) (d:=d) (x:=x) (y:=z) h1 (by grind) h4 (by grind)
 have k2:=mulS_has (a:=a) (b:=b) (c:=c) (d:=d) (x:=x) (y:=w) h1 (by grind) (by grind) h6
 have k3:=mulS_has (a:=a) (b:=b) (c:=c) (d:=d) (x:=y) (y:=z) (by grind) h3 h4 (by grind)
 have k4:=mulS_has (a:=a) (b:=b) (c:=c) (d:=d) (x:=y) (y:=w) (by grind) h3 (by grind) h6
 constructor
 ·rcases l5 with e | e | e | e<;>rw [e]
  ·exact k1.1
  ·exact k2.1
  ·exact k3.1
  ·exact k4.1
 ·rcases m5 with e | e | e | e<;>rw [e]
  ·exact k1.2
  ·exact k2.2
  ·exact k3.2
  ·exact k4.2
theorem sq_nn (x:Rat):0≤x*x:=by
 rcases Rat.le_total (a:=0) (b:=x) with h | h
 ·exact Rat.mul_nonneg h h
 ·have:=Rat.mul_nonneg (show 0≤ -x by grind) (show 0≤ -x by grind);grind
theorem sqrS_has {a b x:Rat} (h1:a≤x) (h2:x≤b):(sqrS a b).1≤x*x∧x*x≤(sqrS a b).2:=by
 have q:=sq_nn x
 have e1:=edge (a:=x) h1
 have e2:=edge (a:=x) h2
 have e3:=edge (a:=a) h1
 have e4:=edge (a:=b) h2
 rw [Rat.mul_comm x a] at e1
 rw [Rat.mul_comm x b] at e2
 unfold sqrS
 simp only [sgr_ge,sgr_le]
 generalize a*x=ax at*
 generalize b*x=bx at*
 generalize a*a=aa at*
 generalize b*b=bb at*
 generalize x*x=xx at*
 by_cases ha:0≤a
 ·rw [if_pos ha];simp only [];grind
 ·rw [if_neg ha]
  by_cases hb:b≤0
  ·rw [if_pos hb];simp only [];grind
  ·rw [if_neg hb];simp only []
   rcases mx_cases aa bb with ⟨f,g⟩ | ⟨f,g⟩<;>rw [f]<;>grind
theorem sqrS_at {a b:Rat} (h:a≤b):(∃x,a≤x∧x≤b∧(sqrS a b).1=x*x)∧ ∃x,a≤x∧x≤b∧(sqrS a b).2=x*x:=by
 unfold sqrS
 simp only [sgr_ge,sgr_le]
 by_cases ha:0≤a
 ·rw [if_pos ha];exact ⟨⟨a,Rat.le_refl,h,rfl⟩,b,h,Rat.le_refl,rfl⟩
 ·rw [if_neg ha]
  by_cases hb:b≤0
  ·rw [if_pos hb];exact ⟨⟨b,h,Rat.le_refl,rfl⟩,a,Rat.le_refl,h,rfl⟩
  ·rw [if_neg hb]
   refine ⟨⟨0,by grind,by grind,by rw [Rat.mul_zero]⟩,?_⟩
   rcases mx_cases (a*a) (b*b) with ⟨f,g⟩ | ⟨f,g⟩
   ·exact ⟨a,Rat.le_refl,h,f⟩
   ·exact ⟨b,h,Rat.le_refl,f⟩
theorem sqrS_in {a b x y:Rat} (h1:a≤x) (h2:x≤y) (h3:y≤b):(sqrS a b).1≤(sqrS x y).1∧(sqrS x y).2≤(sqrS a b).2:=by
 obtain ⟨⟨u,u1,u2,u3⟩,v,v1,v2,v3⟩:=sqrS_at h2
 rw [u3,v3]
 exact ⟨(sqrS_has (by grind) (by grind)).1,(sqrS_has (by grind) (by grind)).2⟩
theorem down_mono {x y:Rat} (n:Nat) (h:x≤y):downR x n≤downR y n:=by
 have hp:=pow2_pos n
 rw [downR_floor,downR_floor]
 have h1:(x*((2^n:Nat):Rat)).floor≤(y*((2^n:Nat):Rat)).floor:=Rat.floor_monotone (mul_le (Rat.le_of_lt hp) h)
 have h2:=Rat.intCast_le_intCast.2 h1
 generalize (((x*((2^n:Nat):Rat)).floor:Int):Rat)=u at*
 generalize (((y*((2^n:Nat):Rat)).floor:Int):Rat)=v at*
 refine le_of_mul hp ?_
 rw [Rat.div_mul_cancel (by grind),Rat.div_mul_cancel (by grind)]
 exact h2
theorem up_mono {x y:Rat} (n:Nat) (h:x≤y):upR x n≤upR y n:=by
 unfold upR
 have:=down_mono n (show-y≤ -x by grind)
 grind
theorem within {a b t:Rat} (h:a≤b) (h0:0≤t) (h1:0≤1-t):a≤a+t*(b-a)∧a+t*(b-a)≤b:=by
 have k1:=Rat.mul_nonneg h0 (show 0≤b-a by grind)
 have k2:=Rat.mul_nonneg h1 (show 0≤b-a by grind)
 constructor<;>grind
end Go.Proofs.YtemmbphdcgdboaaGreatDoor
namespace Go.Proofs.YtemmbphdcgdboaaGreatDoor
open Go.RowKit
set_option linter.unusedVariables false
set_option linter.unusedSimpArgs false
set_option maxRecDepth 20000
set_option maxHeartbeats 4000000
theorem inv_le {c d:Rat} (h:c≤d) (h0: ¬(c≤0∧0≤d)):1/d≤1/c∧c≠0∧d≠0:=by
 have hc:c≠0:=by intro e;exact h0 ⟨by grind,by grind⟩
 have hd:d≠0:=by intro e;exact h0 ⟨by grind,by grind⟩
 refine ⟨?_,hc,hd⟩
 have e1:=Rat.div_mul_cancel (a:=1) hc
 have e2:=Rat.div_mul_cancel (a:=1) hd
 generalize 1/c=p at*
 generalize 1/d=q at*
 rcases Rat.le_total (a:=q) (b:=p) with k | k
 ·exact k
 ·have hpos:0<c*d:=by
   rcases Rat.le_total (a:=c) (b:=0) with k1 | k1
   ·have k2:d<0:=by
     have: ¬0≤d:=fun k3=>h0 ⟨k1,k3⟩
     grind
    have:=Rat.mul_pos (show 0< -c by grind) (show 0< -d by grind)
    grind
   ·exact Rat.mul_pos (by grind) (by grind)
  have:=Rat.mul_nonneg (show 0≤q-p by grind) (Rat.le_of_lt hpos)
  have e3:(q-p)*(c*d)=c-d:=by
   have:(q-p)*(c*d)=q*d*c-p*c*d:=by grind
   rw [this,e1,e2];grind
  rw [e3] at this
  have e:c=d:=by grind
  subst e
  have:(q-p)*c=0:=by grind
  rcases Rat.mul_eq_zero.1 this with z | z<;>grind
theorem bits_sz {n k:Nat} (h:Sz k n):bitsN n≤32*k:=by
 by_cases h0:n=0
 ·subst h0;exact Nat.zero_le _
 ·have h1:=(bitsN_spec h0).1
  have h2:n<4294967296^k:=Nat.lt_of_lt_of_le (toL_lt n) (Nat.pow_le_pow_right (by decide) h)
  rw [show (4294967296:Nat)^k=2^(32*k) by rw [Nat.pow_mul]] at h2
  have h3:=(Nat.pow_lt_pow_iff_right (by decide:1<2)).1 (Nat.lt_of_le_of_lt h1 h2)
  omega
theorem numb_sz (l:List Int) (n:Nat):RSz 4 (numb l n).1:=by
 have h1:=nxt_bd l n (m:=13) (by decide)
 have h3:=nxt_bd l (nxt l (nxt l n 13).2 4).2 (m:=4) (by decide)
 unfold numb
 simp only
 split
 ·refine (rsz_div (rsz_cast _ (by omega) (by omega)) (rsz_cast _ (by omega) (by omega)) ?_)
  intro h0
  have:(1+(nxt l (nxt l (nxt l n 13).2 4).2 4).1)=0:=by exact_mod_cast h0
  omega
 ·exact (rsz_cast _ (by omega) (by omega)).mono (by decide)
theorem spanD_sz (l:List Int) (n:Nat):RSz 4 (spanD l n).1∧RSz 4 (spanD l n).2.1:=
 ⟨rsz_if (numb_sz _ _) (numb_sz _ _) (Nat.le_refl _) (Nat.le_refl _),rsz_if (numb_sz _ _) (numb_sz _ _) (Nat.le_refl _) (Nat.le_refl _)⟩
theorem rootR_nn (r:Rat) (k:Nat):0≤rootR r k:=by
 have h:=fx_mul k (isq (nR r k))
 have hp:=pow2_pos k
 have:=natR_nn (isq (nR r k))
 unfold rootR
 refine le_of_mul hp ?_
 rw [h,Rat.zero_mul]
 exact this
theorem rootR_sq {r:Rat} (hr:0≤r) (k:Nat):rootR r k*rootR r k≤r:=(fx_sq_le hr k _).2 (isq_ok _).1
theorem rootH_eq {r:Rat} (k:Nat) (h:rootR r k*rootR r k≠r):rootH r k=fx k (isq (nR r k)+1):=by
 unfold rootH
 rw [if_neg h,twoPow_fx (Int.le_refl _)]
 have e:((k:Int)+ -(k:Int)).toNat=0:=by omega
 rw [e]
 unfold rootR fx
 rw [natR_add]
 have hp:=pow2_pos k
 show _/_+((1:Nat):Rat)/_=_
 rw [Rat.div_def,Rat.div_def,Rat.div_def]
 grind
theorem rootH_sq {r:Rat} (hr:0≤r) (k:Nat):r≤rootH r k*rootH r k:=by
 by_cases h:rootR r k*rootR r k=r
 ·have e:rootH r k=rootR r k:=by unfold rootH;rw [if_pos h]
  rw [e,h];exact Rat.le_refl
 ·rw [rootH_eq k h]
  have h1:=(fx_sq_le hr k (isq (nR r k)+1))
  have h2:=(isq_ok (nR r k)).2
  have h3: ¬fx k (isq (nR r k)+1)*fx k (isq (nR r k)+1)≤r:=fun h4=>by have:=h1.1 h4;omega
  grind
section
variable {P:Program} {X:Ctx} {ops l:List Oper} {σ:St} {K:List Eff→St→Prop} {dst:Option Tmp} {ty:TypeId} {pos:String} {af:Array Edge}
theorem u_skipU {op:Op} {g:Nat} {want:Bool} (hg:gslot ops σ.s g= .one (.v undef)) (hl:RunK P X ops l (σ.app dst noEff) (fun es σ'=>K (noEff::es) σ')):RunK P X ops (⟨dst,op,ty,pos,af,some (g,want)⟩::l) σ K:=
 .of (fun _ _ hl=>by
  refine .cons (e:=noEff) ?_ (fun p hp=>by cases hp) (fun p hp=>by cases hp) hl
  have h:=hg
  unfold gslot at h
  split at h
  ·rename_i o ho
   split at h
   ·rename_i d hd
    exact ⟨o,ho,d,hd,.inr (.inr ⟨h,rfl⟩)⟩
   ·cases h
  ·cases h) hl
end
section
variable {j1 j2 j3 j4:Nat} {a b c d x:Rat}
theorem s_insideT (g1:c≤a) (g2:b≤d) (h1:j1≤1000000) (h2:j2≤1000000) (h3:j3≤1000000) (h4:j4≤1000000):Ctr Tryz.prog Amb 28 [sp j1 a j2 b,sp j3 c j4 d] (.one (.v (.bool true))):=
 s_inside (p:=true) (q:=true) (decide_eq_true (cmp_le0.2 g1)) (decide_eq_true (cmp_le0.2 g2)) h1 h2 h3 h4
theorem s_hasT (g1:a≤x) (g2:x≤b) (h1:j1≤1000000) (h2:j2≤1000000) (h3:j3≤1000000):Ctr Tryz.prog Amb 26 [sp j1 a j2 b,nm j3 x] (.one (.v (.bool true))):=
 s_has (p:=true) (q:=true) (decide_eq_true (cmp_le0.2 g1)) (decide_eq_true (cmp_le0.2 g2)) h1 h2 h3
theorem s_inverse (ha:a≠0) (hb:b≠0) (h1:j1≤10000) (h2:j2≤10000):Ctr Tryz.prog Amb 95 [sp j1 a j2 b] (sp (j2+4) (1/b) (j1+4) (1/a)):=by
 have I1:=c_int (n:=1) rfl
 rw [show ((1:Int):Rat)=1 from rfl] at I1
 have Q1:=c_quo (j:=2) (k:=j2) (x:=1) (y:=b) (by omega) (by omega) hb
 have Q2:=c_quo (j:=2) (k:=j1) (x:=1) (y:=a) (by omega) (by omega) ha
 refine ctr_body Tryz.func95 rfl rfl rfl rfl rfl rfl ?_
 intro W0 base D μ0 hA
 repeat (first
  | refine aw_seq ?_ | refine aw_block ?_ | refine aw_condT rfl ?_ | refine aw_condF rfl ?_
  | ((first | refine aw_plainK (by kernel_rfl) ?_ | refine aw_drawK (by kernel_rfl) (by kernel_rfl) (by kernel_rfl) ?_)
     repeat (first
      | refine v_move (hl:=?_)
      | refine v_assign (hl:=?_)
      | refine v_load (hl:=?_)
      | refine v_fieldAddr (hl:=?_)
      | refine v_store (hl:=?_)
      | refine v_box (hl:=?_)
      | refine v_alloc (hl:=?_)
      | refine v_buildS (hl:=?_)
      | refine v_buildA (hl:=?_)
      | refine v_extract (hl:=?_)
      | refine v_call hA (hc:=I1) (hl:=?_)
      | refine v_call hA (hc:=Q1) (hl:=?_)
      | refine v_call hA (hc:=Q2) (hl:=?_))
     apply RunK.nil;try refine And.intro (by kernel_rfl) ?_)
  | refine aw_skip ?_ | refine aw_exit ?_)
 refine aw_ret (And.intro (Or.inr rfl) ?_)
 exact f_one
theorem s_quoZ (h:c≤0∧0≤d) (h3:j3≤10000) (h4:j4≤10000):Ctr Tryz.prog Amb 49 [sp j1 a j2 b,sp j3 c j4 d] (.tup [sp 0 0 0 0,.one (.v (.int .i64 3))]):=by
 have H:=s_hasT (j1:=j3) (j2:=j4) (j3:=0) h.1 h.2 (by omega) (by omega) (by omega)
 refine ctr_body Tryz.func49 rfl rfl rfl rfl rfl rfl ?_
 intro W0 base D μ0 hA
 repeat (first
  | refine aw_seq ?_ | refine aw_block ?_ | refine aw_condT rfl ?_ | refine aw_condF rfl ?_
  | ((first | refine aw_plainK (by kernel_rfl) ?_ | refine aw_drawK (by kernel_rfl) (by kernel_rfl) (by kernel_rfl) ?_)
     repeat (first
      | refine v_assign (hl:=?_)
      | refine v_load (hl:=?_)
      | refine v_store (hl:=?_)
      | refine v_box (hl:=?_)
      | refine v_alloc (hl:=?_)
      | refine v_buildS (hl:=?_)
      | refine v_buildA (hl:=?_)
      | refine v_call hA (hc:=H) (hl:=?_))
     apply RunK.nil;try refine And.intro (by kernel_rfl) ?_)
  | refine aw_skip ?_ | refine aw_exit ?_)
 refine aw_ret (And.intro (Or.inr rfl) ?_)
 exact f_two
theorem s_quoN (h: ¬(c≤0∧0≤d)) (hcd:c≤d) (h1:j1≤10000) (h2:j2≤10000) (h3:j3≤10000) (h4:j4≤10000):Ctr Tryz.prog Amb 49 [sp j1 a j2 b,sp j3 c j4 d] (.tup [sp (2*(j1+j2+(j4+4)+(j3+4))+5) (mulS a b (1/d) (1/c)).1 (2*(j1+j2+(j4+4)+(j3+4))+5) (mulS a b (1/d) (1/c)).2,.one (.v (.int .i64 0))]):=by
 obtain ⟨k1,k2,k3⟩:=inv_le hcd h
 have hf:(decide (cmpR c 0≤0)&&decide (cmpR 0 d≤0))=false:=by
  rw [←Bool.decide_and]
  exact decide_eq_false fun h2=>h ⟨cmp_le0.1 h2.1,cmp_le0.1 h2.2⟩
 have H:=s_has (a:=c) (b:=d) (x:=0) (j1:=j3) (j2:=j4) (j3:=0) rfl rfl (by omega) (by omega) (by omega)
 rw [hf] at H
 have V:=s_inverse (j1:=j3) (j2:=j4) k2 k3 (by omega) (by omega)
 have M:=s_mul (a:=a) (b:=b) (c:=1/d) (d:=1/c) (j1:=j1) (j2:=j2) (j3:=j4+4) (j4:=j3+4) (by omega) (by omega) (by omega) (by omega)
 generalize mulS a b (1/d) (1/c)=m at*
 refine ctr_body Tryz.func49 rfl rfl rfl rfl rfl rfl ?_
 intro W0 base D μ0 hA
 repeat (first
  | refine aw_seq ?_ | refine aw_block ?_ | refine aw_condT rfl ?_ | refine aw_condF rfl ?_
  | ((first | refine aw_plainK (by kernel_rfl) ?_ | refine aw_drawK (by kernel_rfl) (by kernel_rfl) (by kernel_rfl) ?_)
     repeat (first
      | refine v_assign (hl:=?_)
      | refine v_load (hl:=?_)
      | refine v_store (hl:=?_)
      | refine v_box (hl:=?_)
      | refine v_alloc (hl:=?_)
      | refine v_buildS (hl:=?_)
      | refine v_buildA (hl:=?_)
      | refine v_call hA (hc:=H) (hl:=?_)
      | refine v_callE hA (hc:=V) (hl:=?_)
      | refine v_callE hA (hc:=M) (hl:=?_))
     apply RunK.nil;try refine And.intro (by kernel_rfl) ?_)
  | refine aw_skip ?_ | refine aw_exit ?_)
 refine aw_ret (And.intro (Or.inr rfl) ?_)
 exact f_two
theorem d_within {n:Int} (h1: -9223372036854775808≤n) (h2:n<9223372036854775808) (h3:j1≤10000) (h4:j2≤10000):Ctr Tryz.prog Amb 48 [sp j1 a j2 b,.one (.v (.int .i64 n))] (nm (j1+(2+(j2+j1+3)+2)+3) (a+partR n*(b-a))):=by
 have P1:=d_part h1 h2
 refine ctr_body Tryz.func48 rfl rfl rfl rfl rfl rfl ?_
 intro W0 base D μ0 hA
 repeat (first
  | refine aw_seq ?_ | refine aw_block ?_ | refine aw_condT rfl ?_ | refine aw_condF rfl ?_
  | ((first | refine aw_plainK (by kernel_rfl) ?_ | refine aw_drawK (by kernel_rfl) (by kernel_rfl) (by kernel_rfl) ?_)
     repeat (first
      | refine v_move (hl:=?_)
      | refine v_load (hl:=?_)
      | refine v_fieldAddr (hl:=?_)
      | refine v_store (hl:=?_)
      | refine v_box (hl:=?_)
      | refine v_alloc (hl:=?_)
      | refine v_call hA (hc:=P1) (hl:=?_)
      | (refine v_call hA (hc:=r_sub ?_ ?_) (hl:=?_);omega;omega)
      | (refine v_call hA (hc:=r_mul ?_ ?_) (hl:=?_);omega;omega)
      | (refine v_call hA (hc:=r_add ?_ ?_) (hl:=?_);omega;omega))
     apply RunK.nil;try refine And.intro (by kernel_rfl) ?_)
  | refine aw_skip ?_ | refine aw_exit ?_)
 refine aw_ret (And.intro (Or.inr rfl) ?_)
 exact f_one
end
end Go.Proofs.YtemmbphdcgdboaaGreatDoor
