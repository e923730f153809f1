/-
  Several texts in one: Tm, Tq.
-/
import Derived.Test.YtgdlialkjiblpaaGreatDoorHb
import Derived.Test.YtgdlialkjiblpaaGreatDoorHa
namespace Go.Proofs.YtgdlialkjiblpaaGreatDoor
set_option linter.unusedVariables false
set_option maxHeartbeats 4000000
theorem sgr_le {x:Rat} :sgnR x≤0↔x≤0:=by rw [sgn_cmp];exact cmp_le0
theorem sgr_ge {x:Rat} :0≤sgnR x↔0≤x:=by
 rw [sgn_cmp,ord_neg]
 have:=cmp_le0 (x:=0) (y:=x)
 constructor
 ·intro h;exact this.1 (by omega)
 ·intro h;have:=this.2 h;omega
theorem sgr_lt {x:Rat} :sgnR x<0↔x<0:=by
 have:=sgr_ge (x:=x)
 constructor
 ·intro h
  have h1: ¬0≤x:=fun h2=>by have:=this.2 h2;omega
  grind
 ·intro h
  have h1: ¬0≤sgnR x:=fun h2=>by have:=this.1 h2;grind
  omega
def Least (m p q r s:Rat):Prop:=m≤p∧m≤q∧m≤r∧m≤s∧(m=p∨m=q∨m=r∨m=s)
def Most (m p q r s:Rat):Prop:=p≤m∧q≤m∧r≤m∧s≤m∧(m=p∨m=q∨m=r∨m=s)
theorem Least.uniq {m n p q r s:Rat} (h:Least m p q r s) (h2:Least n p q r s):m=n:=by
 obtain ⟨a1,a2,a3,a4,a5⟩:=h
 obtain ⟨b1,b2,b3,b4,b5⟩:=h2
 rcases a5 with e | e | e | e<;>rcases b5 with f | f | f | f<;>grind
theorem Most.uniq {m n p q r s:Rat} (h:Most m p q r s) (h2:Most n p q r s):m=n:=by
 obtain ⟨a1,a2,a3,a4,a5⟩:=h
 obtain ⟨b1,b2,b3,b4,b5⟩:=h2
 rcases a5 with e | e | e | e<;>rcases b5 with f | f | f | f<;>grind
theorem mulT_least (a b c d:Rat):Least (mulT a b c d).1 (a*c) (a*d) (b*c) (b*d):=by
 unfold mulT Least
 simp only []
 generalize a*c=p
 generalize a*d=q
 generalize b*c=r
 generalize b*d=s
 rcases mn_cases p q with ⟨e1,g1⟩ | ⟨e1,g1⟩<;>rw [e1]
 ·rcases mn_cases p r with ⟨e2,g2⟩ | ⟨e2,g2⟩<;>rw [e2]
  ·rcases mn_cases p s with ⟨e3,g3⟩ | ⟨e3,g3⟩<;>rw [e3]<;>grind
  ·rcases mn_cases r s with ⟨e3,g3⟩ | ⟨e3,g3⟩<;>rw [e3]<;>grind
 ·rcases mn_cases q r with ⟨e2,g2⟩ | ⟨e2,g2⟩<;>rw [e2]
  ·rcases mn_cases q s with ⟨e3,g3⟩ | ⟨e3,g3⟩<;>rw [e3]<;>grind
  ·rcases mn_cases r s with ⟨e3,g3⟩ | ⟨e3,g3⟩<;>rw [e3]<;>grind
theorem mulT_most (a b c d:Rat):Most (mulT a b c d).2 (a*c) (a*d) (b*c) (b*d):=by
 unfold mulT Most
 simp only []
 generalize a*c=p
 generalize a*d=q
 generalize b*c=r
 generalize b*d=s
 rcases mx_cases p q with ⟨e1,g1⟩ | ⟨e1,g1⟩<;>rw [e1]
 ·rcases mx_cases p r with ⟨e2,g2⟩ | ⟨e2,g2⟩<;>rw [e2]
  ·rcases mx_cases p s with ⟨e3,g3⟩ | ⟨e3,g3⟩<;>rw [e3]<;>grind
  ·rcases mx_cases r s with ⟨e3,g3⟩ | ⟨e3,g3⟩<;>rw [e3]<;>grind
 ·rcases mx_cases q r with ⟨e2,g2⟩ | ⟨e2,g2⟩<;>rw [e2]
  ·rcases mx_cases q s with ⟨e3,g3⟩ | ⟨e3,g3⟩<;>rw [e3]<;>grind
  ·rcases mx_cases r s with ⟨e3,g3⟩ | ⟨e3,g3⟩<;>rw [e3]<;>grind
theorem edge {a c d:Rat} (h:c≤d):(0≤a→a*c≤a*d)∧(a≤0→a*d≤a*c):=by
 constructor<;>intro h0
 ·have:=Rat.mul_nonneg h0 (show 0≤d-c by grind);grind
 ·have:=Rat.mul_nonneg (show 0≤ -a by grind) (show 0≤d-c by grind);grind
theorem mul1_ok {a b c d:Rat} (h1:a≤b) (h2:c≤d) (hs:(0≤a∨b≤0)∨(a<0∧0<b∧c<0∧0<d)):Least (mul1 a b c d).1 (a*c) (a*d) (b*c) (b*d)∧Most (mul1 a b c d).2 (a*c) (a*d) (b*c) (b*d):=by
 have e1:=edge (a:=a) h2
 have e2:=edge (a:=b) h2
 have e3:=edge (a:=c) h1
 have e4:=edge (a:=d) h1
 rw [Rat.mul_comm c a,Rat.mul_comm c b] at e3
 rw [Rat.mul_comm d a,Rat.mul_comm d b] at e4
 unfold mul1 Lp Gp Least Most
 simp only [sgr_lt,sgr_ge,sgr_le]
 generalize a*c=p at*
 generalize a*d=q at*
 generalize b*c=r at*
 generalize b*d=s at*
 by_cases ha:0≤a
 ·rw [if_pos ha]
  by_cases hc:c<0<;>by_cases hd:d<0<;>simp only [hc,hd,if_true,if_false]<;>grind
 ·rw [if_neg ha]
  by_cases hb:b≤0
  ·rw [if_pos hb]
   by_cases hc:c<0<;>by_cases hd:d<0<;>simp only [hc,hd,if_true,if_false]<;>grind
  ·rw [if_neg hb]
   have hc:c<0:=by grind
   have hd: ¬d<0:=by grind
   simp only [hc,hd,if_true,if_false]
   rcases mn_cases r q with ⟨f1,g1⟩ | ⟨f1,g1⟩<;>rcases mx_cases p s with ⟨f2,g2⟩ | ⟨f2,g2⟩<;>rw [f1,f2]<;>grind
theorem mulS_ok {a b c d:Rat} (h1:a≤b) (h2:c≤d):Least (mulS a b c d).1 (a*c) (a*d) (b*c) (b*d)∧Most (mulS a b c d).2 (a*c) (a*d) (b*c) (b*d):=by
 unfold mulS
 by_cases hs:0≤sgnR a∨sgnR b≤0
 ·rw [if_pos hs]
  rw [sgr_ge,sgr_le] at hs
  exact mul1_ok h1 h2 (.inl hs)
 ·rw [if_neg hs]
  rw [sgr_ge,sgr_le] at hs
  have k:(0≤c∨d≤0)∨(c<0∧0<d∧a<0∧0<b):=by grind
  obtain ⟨⟨l1,l2,l3,l4,l5⟩,m1,m2,m3,m4,m5⟩:=mul1_ok h2 h1 k
  rw [Rat.mul_comm c a,Rat.mul_comm d a,Rat.mul_comm c b,Rat.mul_comm d b] at*
  exact ⟨⟨l1,l3,l2,l4,by grind⟩,m1,m3,m2,m4,by grind⟩
theorem mulS_T {a b c d:Rat} (h1:a≤b) (h2:c≤d):mulS a b c d=mulT a b c d:=
 Prod.ext ((mulS_ok h1 h2).1.uniq (mulT_least a b c d)) ((mulS_ok h1 h2).2.uniq (mulT_most a b c d))
theorem mulS_has {a b c d x y:Rat} (hx1:a≤x) (hx2:x≤b) (hy1:c≤y) (hy2:y≤d):(mulS a b c d).1≤x*y∧x*y≤(mulS a b c d).2:=by
 obtain ⟨⟨l1,l2,l3,l4,l5⟩,m1,m2,m3,m4,m5⟩:=mulS_ok (a:=a) (b:=b) (c:=c) (d:=d) (by grind) (by grind)
 generalize (mulS a b c d).1=u at*
 generalize (mulS a b c d).2=v at*
 have e1:=edge (a:=y) hx1
 have e2:=edge (a:=y) hx2
 have e3:=edge (a:=a) hy1
 have e4:=edge (a:=a) hy2
 have e5:=edge (a:=b) hy1
 have e6:=edge (a:=b) hy2
 rw [Rat.mul_comm y a,Rat.mul_comm y x] at e1
 rw [Rat.mul_comm y b,Rat.mul_comm y x] at e2
 generalize a*c=p at*
 generalize a*d=q at*
 generalize b*c=r at*
 generalize b*d=s at*
 generalize a*y=ay at*
 generalize b*y=b_y at*
 generalize x*y=z at*
 have k1:u≤ay∧ay≤v:=by clear e1 e2 e5 e6 l5 m5;grind
 have k2:u≤b_y∧b_y≤v:=by clear e1 e2 e3 e4 l5 m5;grind
 have k3:y≤0∨0≤y:=by grind
 clear e3 e4 e5 e6 l5 m5
 rcases k3 with k3 | k3<;>grind
theorem within {a b t:Rat} (h:a≤b) (h0:0≤t) (h1:0≤1-t):a≤a+t*(b-a)∧a+t*(b-a)≤b:=by
 have k1:=Rat.mul_nonneg h0 (show 0≤b-a by grind)
 have k2:=Rat.mul_nonneg h1 (show 0≤b-a by grind)
 constructor<;>grind
end Go.Proofs.YtgdlialkjiblpaaGreatDoor
namespace Go.Proofs.YtgdlialkjiblpaaGreatDoor
open Go.RowKit
set_option linter.unusedVariables false
set_option linter.unusedSimpArgs false
set_option maxRecDepth 20000
set_option maxHeartbeats 4000000
section
variable {P:Program} {X:Ctx} {ops l:List Oper} {σ:St} {K:List Eff→St→Prop} {dst:Option Tmp} {ty:TypeId} {pos:String} {af:Array Edge}
theorem u_skipU {op:Op} {g:Nat} {want:Bool} (hg:gslot ops σ.s g= .one (.v undef)) (hl:RunK P X ops l (σ.app dst noEff) (fun es σ'=>K (noEff::es) σ')):RunK P X ops (⟨dst,op,ty,pos,af,some (g,want)⟩::l) σ K:=
 .of (fun _ _ hl=>by
  refine .cons (e:=noEff) ?_ (fun p hp=>by cases hp) alOk_nil hl
  have h:=hg
  unfold gslot at h
  split at h
  ·rename_i o ho
   split at h
   ·rename_i d hd
    exact ⟨o,ho,d,hd,.inr (.inr ⟨h,rfl⟩)⟩
   ·cases h
  ·cases h) hl
end
section
variable {j1 j2 j3 j4:Nat} {a b c d x:Rat}
theorem s_hasT (g1:a≤x) (g2:x≤b) (h1:j1≤1000000) (h2:j2≤1000000) (h3:j3≤1000000):Ctr Tryz.prog Amb 21 [sp j1 a j2 b,nm j3 x] (.one (.v (.bool true))):=
 s_has (p:=true) (q:=true) (decide_eq_true (cmp_le0.2 g1)) (decide_eq_true (cmp_le0.2 g2)) h1 h2 h3
theorem d_within {n:Int} (h1: -9223372036854775808≤n) (h2:n<9223372036854775808) (h3:j1≤10000) (h4:j2≤10000):Ctr Tryz.prog Amb 18 [sp j1 a j2 b,.one (.v (.int .i64 n))] (nm (j1+(2+(j2+j1+3)+2)+3) (a+partR n*(b-a))):=by
 have P1:=d_part h1 h2
 refine ctr_body Tryz.func18 rfl rfl rfl rfl rfl rfl ?_
 intro W0 base D μ0 hA hD
 repeat (first
  | refine aw_seq ?_ | refine aw_block ?_ | refine aw_condT rfl ?_ | refine aw_condF rfl ?_
  | ((first | refine aw_plainK (by kernel_rfl) ?_ | refine aw_drawK (by kernel_rfl) (by kernel_rfl) (by kernel_rfl) ?_)
     repeat (first
      | refine v_move (hl:=?_)
      | refine v_load (hl:=?_)
      | refine v_fieldAddr (hl:=?_)
      | refine v_store (hl:=?_)
      | refine v_box (hl:=?_)
      | refine v_alloc (hl:=?_)
      | refine v_call hA (hc:=P1) (hl:=?_)
      | (refine v_call hA (hc:=r_sub ?_ ?_) (hl:=?_);omega;omega)
      | (refine v_call hA (hc:=r_mul ?_ ?_) (hl:=?_);omega;omega)
      | (refine v_call hA (hc:=r_add ?_ ?_) (hl:=?_);omega;omega))
     apply RunK.nil;try refine And.intro (by kernel_rfl) ?_)
  | refine aw_skip ?_ | refine aw_exit ?_)
 refine aw_ret (And.intro (Or.inr rfl) ?_)
 exact f_one
end
end Go.Proofs.YtgdlialkjiblpaaGreatDoor
