/-
  brepkernelref02.Same, Cmp: by walking their texts.
-/
import Derived.Test.YtkmalkcgkcpcmaaGreatDoorBk
import Derived.Test.YtkmalkcgkcpcmaaGreatDoorBr
namespace Go.Proofs.YtkmalkcgkcpcmaaGreatDoor
open Lib renaming hid→Yg
set_option maxHeartbeats 16000000
open Go.RowKit
theorem NZ (m n:Nat):decide (m=n)=(Bx m n==0):=by
 by_cases h:m=n
 ·rw [decide_eq_true h,CY h];rfl
 ·rw [decide_eq_false h]
  symm
  refine beq_eq_false_iff_ne.2 ?_
  rcases Nat.lt_or_gt_of_ne h with h1|h1
  ·rw [Cb h1];decide
  ·rw [Cc h1];decide
theorem R3 (m n:Nat):Bx n m= -Bx m n:=by
 rcases Nat.lt_trichotomy m n with h|h|h
 ·rw [Cb h,Cc h];rfl
 ·rw [CY h,CY h.symm];rfl
 ·rw [Cb h,Cc h]
set_option maxRecDepth 20000 in
theorem OE {w:World} {u:Value} {x:Rat} (hu:AA w u x) {v:Value} {y:Rat} (hv:AA w v y):
  Calls Tryz.prog 34 #[u,v] w fun e w'=>e= .returned (.bool (decide (x=y)))∧Kp w w':=by
 rw [I8,NZ,NZ]
 obtain ⟨a1,l1,c1,a2,l2,c2,rfl,m1,m2⟩:=hu.parts
 obtain ⟨a3,l3,c3,a4,l4,c4,rfl,m3,m4⟩:=hv.parts
 have HT:=Yg (P2.new w (.bool (decide (x.num<0))) (.slice a1 l1 c1) (.slice a2 l2 c2) (.bool (decide (y.num<0))) (.slice a3 l3 c3) (.slice a4 l4 c4))
 have HU:=Yg hu
 have Hm1:=Yg m1
 have Hm2:=Yg m2
 have HV:=Yg hv
 have Hm3:=Yg m3
 have Hm4:=Yg m4
 have CN:=Yg (fun w' (a:M w' (.slice a1 l1 c1) x.num.natAbs) (b:M w' (.slice a3 l3 c3) y.num.natAbs)=>CG _ _ _ _ w' a b)
 have CK:=Yg (fun w' (a:M w' (.slice a2 l2 c2) (Bz x)) (b:M w' (.slice a4 l4 c4) (Bz y))=>CG _ _ _ _ w' a b)
 obtain ⟨p,hp⟩: ∃b,b=decide (x.num<0):=⟨_,rfl⟩
 try rw [←hp] at HT
 try rw [←hp] at HU
 try rw [←hp] at Hm1
 try rw [←hp] at Hm2
 try rw [←hp] at HV
 try rw [←hp] at Hm3
 try rw [←hp] at Hm4
 try rw [←hp] at CN
 try rw [←hp] at CK
 try rw [←hp]
 have HPp:=Yg hp
 obtain ⟨q,hq⟩: ∃b,b=decide (y.num<0):=⟨_,rfl⟩
 try rw [←hq] at HT
 try rw [←hq] at HU
 try rw [←hq] at Hm1
 try rw [←hq] at Hm2
 try rw [←hq] at HV
 try rw [←hq] at Hm3
 try rw [←hq] at Hm4
 try rw [←hq] at CN
 try rw [←hq] at CK
 try rw [←hq]
 have HPq:=Yg hq
 clear hu m1 m2 hp hv m3 m4 hq
 obtain ⟨cn,hcn⟩: ∃c,c=Bx x.num.natAbs y.num.natAbs:=⟨_,rfl⟩
 obtain ⟨ck,hck⟩: ∃c,c=Bx (Bz x) (Bz y):=⟨_,rfl⟩
 rw [←hcn] at CN⊢
 rw [←hck] at CK⊢
 clear hcn hck
 have hpq:p=q∨q=!p:=by cases p<;>cases q<;>simp
 rcases hpq with hpq|hpq
 ·subst hpq
  have hpp:(p==p)=true:=by simp
  by_cases hc:cn=0
  ·subst hc
   have hz:((0:Int)==0)=true:=rfl
   have HPS:=Yg hpp
   clear hpp
   go_enter Tryz.func34,Tryz.ntmps34
   have KN:=HT.out.k
   have U_e:=Yg (HU.out.kp KN)
   have m1_e:=Yg (Hm1.out.kp KN)
   have m2_e:=Yg (Hm2.out.kp KN)
   have V_e:=Yg (HV.out.kp KN)
   have m3_e:=Yg (Hm3.out.kp KN)
   have m4_e:=Yg (Hm4.out.kp KN)
   clear KN
   obtain ⟨g0,g1,g2,_⟩:=HT.out.ra.cells
   obtain ⟨h0,h1,h2,_⟩:=HT.out.rb.cells
   go_wp2_with (go_at_call 80;(with_reducible refine (CN.out _ m1_e.out m3_e.out).mono ?_);rintro e w2 ⟨rfl,k2⟩;refine Hid.out ?_)
   refine Yg ?_
   have T_2:=Yg (HT.out.kp k2)
   have U_2:=Yg (U_e.out.kp k2)
   have m1_2:=Yg (m1_e.out.kp k2)
   have m2_2:=Yg (m2_e.out.kp k2)
   have V_2:=Yg (V_e.out.kp k2)
   have m3_2:=Yg (m3_e.out.kp k2)
   have m4_2:=Yg (m4_e.out.kp k2)
   clear HT U_e m1_e m2_e V_e m3_e m4_e
   clear k2
   obtain ⟨g0,g1,g2,_⟩:=T_2.out.ra.cells
   obtain ⟨h0,h1,h2,_⟩:=T_2.out.rb.cells
   go_wp2_with (go_at_call 80;(with_reducible refine (CK.out _ m2_2.out m4_2.out).mono ?_);rintro e w3 ⟨rfl,k3⟩;refine Hid.out ?_)
   refine Yg ?_
   have T_3:=Yg (T_2.out.kp k3)
   have U_3:=Yg (U_2.out.kp k3)
   have m1_3:=Yg (m1_2.out.kp k3)
   have m2_3:=Yg (m2_2.out.kp k3)
   have V_3:=Yg (V_2.out.kp k3)
   have m3_3:=Yg (m3_2.out.kp k3)
   have m4_3:=Yg (m4_2.out.kp k3)
   clear T_2 U_2 m1_2 m2_2 V_2 m3_2 m4_2
   clear k3
   obtain ⟨g0,g1,g2,_⟩:=T_3.out.ra.cells
   obtain ⟨h0,h1,h2,_⟩:=T_3.out.rb.cells
   go_wp2
   go_ret
   exact ⟨Em (by rw [HPS.out];simp),T_3.out.k⟩
  ·have hcb:(cn==0)=false:=beq_eq_false_iff_ne.2 hc
   have HPS:=Yg hpp
   have HCB:=Yg hcb
   clear hc hpp
   go_enter Tryz.func34,Tryz.ntmps34
   have KN:=HT.out.k
   have U_e:=Yg (HU.out.kp KN)
   have m1_e:=Yg (Hm1.out.kp KN)
   have m2_e:=Yg (Hm2.out.kp KN)
   have V_e:=Yg (HV.out.kp KN)
   have m3_e:=Yg (Hm3.out.kp KN)
   have m4_e:=Yg (Hm4.out.kp KN)
   clear KN
   obtain ⟨g0,g1,g2,_⟩:=HT.out.ra.cells
   obtain ⟨h0,h1,h2,_⟩:=HT.out.rb.cells
   go_wp2_with (go_at_call 80;(with_reducible refine (CN.out _ m1_e.out m3_e.out).mono ?_);rintro e w2 ⟨rfl,k2⟩;refine Hid.out ?_)
   refine Yg ?_
   have T_2:=Yg (HT.out.kp k2)
   have U_2:=Yg (U_e.out.kp k2)
   have m1_2:=Yg (m1_e.out.kp k2)
   have m2_2:=Yg (m2_e.out.kp k2)
   have V_2:=Yg (V_e.out.kp k2)
   have m3_2:=Yg (m3_e.out.kp k2)
   have m4_2:=Yg (m4_e.out.kp k2)
   clear HT U_e m1_e m2_e V_e m3_e m4_e
   clear k2
   obtain ⟨g0,g1,g2,_⟩:=T_2.out.ra.cells
   obtain ⟨h0,h1,h2,_⟩:=T_2.out.rb.cells
   go_wp2
   go_ret
   exact ⟨Em (by rw [HPS.out,HCB.out];rfl),T_2.out.k⟩
 ·subst hpq
  cases p
  all_goals
   go_enter Tryz.func34,Tryz.ntmps34
   have KN:=HT.out.k
   have U_e:=Yg (HU.out.kp KN)
   have m1_e:=Yg (Hm1.out.kp KN)
   have m2_e:=Yg (Hm2.out.kp KN)
   have V_e:=Yg (HV.out.kp KN)
   have m3_e:=Yg (Hm3.out.kp KN)
   have m4_e:=Yg (Hm4.out.kp KN)
   clear KN
   obtain ⟨g0,g1,g2,_⟩:=HT.out.ra.cells
   obtain ⟨h0,h1,h2,_⟩:=HT.out.rb.cells
   go_wp2
   go_ret
   exact ⟨Em (by simp),HT.out.k⟩
set_option maxRecDepth 20000 in
theorem MU {w:World} {u:Value} {x:Rat} (hu:AA w u x) {v:Value} {y:Rat} (hv:AA w v y) (h9:Cz x≠Cz y):
  Calls Tryz.prog 33 #[u,v] w fun e w'=>e= .returned (.int .i64 (C4 x y))∧Kp w w':=by
 have hv:C4 x y=if Cz x<Cz y then-1 else 1:=by
  rw [JV h9]
  split<;>omega
 rw [hv]
 clear hv
 obtain ⟨a1,l1,c1,a2,l2,c2,rfl,m1,m2⟩:=hu.parts
 obtain ⟨a3,l3,c3,a4,l4,c4,rfl,m3,m4⟩:=hv.parts
 have HT:=Yg (P2.new w (.bool (decide (x.num<0))) (.slice a1 l1 c1) (.slice a2 l2 c2) (.bool (decide (y.num<0))) (.slice a3 l3 c3) (.slice a4 l4 c4))
 have HU:=Yg hu
 have HV:=Yg hv
 have CA:=Yg (fun w' a (ha:AA w' a x)=>Fn ha)
 have CB:=Yg (fun w' a (ha:AA w' a y)=>Fn ha)
 obtain ⟨p,hp⟩: ∃b,b=decide (x.num<0):=⟨_,rfl⟩
 try rw [←hp] at HT
 try rw [←hp] at HU
 try rw [←hp] at HV
 try rw [←hp] at CA
 try rw [←hp] at CB
 try rw [←hp]
 have HPp:=Yg hp
 obtain ⟨q,hq⟩: ∃b,b=decide (y.num<0):=⟨_,rfl⟩
 try rw [←hq] at HT
 try rw [←hq] at HU
 try rw [←hq] at HV
 try rw [←hq] at CA
 try rw [←hq] at CB
 try rw [←hq]
 have HPq:=Yg hq
 clear hu m1 m2 hp hv m3 m4 hq
 obtain ⟨sx,hsx⟩: ∃s,s=Cz x:=⟨_,rfl⟩
 obtain ⟨sy,hsy⟩: ∃s,s=Cz y:=⟨_,rfl⟩
 rw [←hsx] at CA h9⊢
 rw [←hsy] at CB h9⊢
 clear hsx hsy
 have hne:(sx !=sy)=true:=by rw [bne_iff_ne];exact h9
 by_cases hlt:sx<sy
 ·rw [if_pos hlt]
  have hdl:decide (sx<sy)=true:=decide_eq_true hlt
  clear h9
  go_enter Tryz.func33,Tryz.ntmps33
  have KN:=HT.out.k
  have U_e:=Yg (HU.out.kp KN)
  have V_e:=Yg (HV.out.kp KN)
  clear KN
  obtain ⟨g0,g1,g2,_⟩:=HT.out.ra.cells
  obtain ⟨h0,h1,h2,_⟩:=HT.out.rb.cells
  go_upto_region 1 with fail
  have T_2:=Yg (HT.out.kp (Below.refl _ _).drew)
  have U_2:=Yg (U_e.out.kp (Below.refl _ _).drew)
  have V_2:=Yg (V_e.out.kp (Below.refl _ _).drew)
  clear HT U_e V_e
  go_region_held3 (fun w'=>w'.cell? ⟨w.heap.size,0,none⟩=some (.bool p)∧w'.cell? ⟨w.heap.size,1,none⟩=some (.slice a1 l1 c1)∧w'.cell? ⟨w.heap.size,2,none⟩=some (.slice a2 l2 c2)∧w'.cell? ⟨w.heap.size+1,0,none⟩=some (.bool q)∧w'.cell? ⟨w.heap.size+1,1,none⟩=some (.slice a3 l3 c3)∧w'.cell? ⟨w.heap.size+1,2,none⟩=some (.slice a4 l4 c4))
   (first|(refine ⟨?_,?_,?_,?_,?_,?_⟩<;>assumption)|go_keep)
   (first
    | (go_at_call 44;(with_reducible refine (CA.out _ _ U_2.out).mono ?_);rintro e w3 ⟨rfl,k3⟩;have T_3:=Yg (T_2.out.kp k3);have U_3:=Yg (U_2.out.kp k3);have V_3:=Yg (V_2.out.kp k3);clear T_2 U_2 V_2;clear k3;obtain ⟨g0,g1,g2,_⟩:=T_3.out.ra.cells;obtain ⟨h0,h1,h2,_⟩:=T_3.out.rb.cells)
    | (go_at_call 44;(with_reducible refine (CB.out _ _ V_3.out).mono ?_);rintro e w4 ⟨rfl,k4⟩;have T_4:=Yg (T_3.out.kp k4);have U_4:=Yg (U_3.out.kp k4);have V_4:=Yg (V_3.out.kp k4);clear T_3 U_3 V_3;clear k4;obtain ⟨g0,g1,g2,_⟩:=T_4.out.ra.cells;obtain ⟨h0,h1,h2,_⟩:=T_4.out.rb.cells))
  go_wp2
  go_ret
  exact ⟨rfl,T_4.out.k⟩
 ·rw [if_neg hlt]
  have hdl:decide (sx<sy)=false:=decide_eq_false hlt
  clear h9
  go_enter Tryz.func33,Tryz.ntmps33
  have KN:=HT.out.k
  have U_e:=Yg (HU.out.kp KN)
  have V_e:=Yg (HV.out.kp KN)
  clear KN
  obtain ⟨g0,g1,g2,_⟩:=HT.out.ra.cells
  obtain ⟨h0,h1,h2,_⟩:=HT.out.rb.cells
  go_upto_region 1 with fail
  have T_2:=Yg (HT.out.kp (Below.refl _ _).drew)
  have U_2:=Yg (U_e.out.kp (Below.refl _ _).drew)
  have V_2:=Yg (V_e.out.kp (Below.refl _ _).drew)
  clear HT U_e V_e
  go_region_held3 (fun w'=>w'.cell? ⟨w.heap.size,0,none⟩=some (.bool p)∧w'.cell? ⟨w.heap.size,1,none⟩=some (.slice a1 l1 c1)∧w'.cell? ⟨w.heap.size,2,none⟩=some (.slice a2 l2 c2)∧w'.cell? ⟨w.heap.size+1,0,none⟩=some (.bool q)∧w'.cell? ⟨w.heap.size+1,1,none⟩=some (.slice a3 l3 c3)∧w'.cell? ⟨w.heap.size+1,2,none⟩=some (.slice a4 l4 c4))
   (first|(refine ⟨?_,?_,?_,?_,?_,?_⟩<;>assumption)|go_keep)
   (first
    | (go_at_call 44;(with_reducible refine (CA.out _ _ U_2.out).mono ?_);rintro e w3 ⟨rfl,k3⟩;have T_3:=Yg (T_2.out.kp k3);have U_3:=Yg (U_2.out.kp k3);have V_3:=Yg (V_2.out.kp k3);clear T_2 U_2 V_2;clear k3;obtain ⟨g0,g1,g2,_⟩:=T_3.out.ra.cells;obtain ⟨h0,h1,h2,_⟩:=T_3.out.rb.cells)
    | (go_at_call 44;(with_reducible refine (CB.out _ _ V_3.out).mono ?_);rintro e w4 ⟨rfl,k4⟩;have T_4:=Yg (T_3.out.kp k4);have U_4:=Yg (U_3.out.kp k4);have V_4:=Yg (V_3.out.kp k4);clear T_3 U_3 V_3;clear k4;obtain ⟨g0,g1,g2,_⟩:=T_4.out.ra.cells;obtain ⟨h0,h1,h2,_⟩:=T_4.out.rb.cells))
  go_wp2
  go_ret
  exact ⟨rfl,T_4.out.k⟩
set_option maxRecDepth 20000 in
theorem MT {w:World} {u:Value} {x:Rat} (hu:AA w u x) {v:Value} {y:Rat} (hv:AA w v y) {j k:Nat} (hs:RSz j x) (ht:RSz k y) (hj:j≤500000000) (hk:k≤500000000) (h9:Cz x=Cz y):
  Calls Tryz.prog 33 #[u,v] w fun e w'=>e= .returned (.int .i64 (if decide (x.num<0)=true then-Bx (x.num.natAbs*y.den) (y.num.natAbs*x.den) else Bx (x.num.natAbs*y.den) (y.num.natAbs*x.den)))∧Kp w w':=by
 obtain ⟨a1,l1,c1,a2,l2,c2,rfl,m1,m2⟩:=hu.parts
 obtain ⟨a3,l3,c3,a4,l4,c4,rfl,m3,m4⟩:=hv.parts
 have HT:=Yg (P2.new w (.bool (decide (x.num<0))) (.slice a1 l1 c1) (.slice a2 l2 c2) (.bool (decide (y.num<0))) (.slice a3 l3 c3) (.slice a4 l4 c4))
 have HU:=Yg hu
 have Hm1:=Yg m1
 have Hm2:=Yg m2
 have HV:=Yg hv
 have Hm3:=Yg m3
 have Hm4:=Yg m4
 have CDA:=Yg (fun w' (a:M w' (.slice a1 l1 c1) x.num.natAbs) (b:M w' (.slice a2 l2 c2) (Bz x))=>DZ (s:=decide (x.num<0)) a b)
 have CDB:=Yg (fun w' (a:M w' (.slice a3 l3 c3) y.num.natAbs) (b:M w' (.slice a4 l4 c4) (Bz y))=>DZ (s:=decide (y.num<0)) a b)
 have CA:=Yg (fun w' a (ha:AA w' a x)=>Fn ha)
 have CB:=Yg (fun w' a (ha:AA w' a y)=>Fn ha)
 have CM1:=Yg (fun w' va vb (a:M w' va (x.num.natAbs)) (b:M w' vb (y.den))=>Ci a b hs.1 ht.2 (by omega) (by omega))
 have CM2:=Yg (fun w' va vb (a:M w' va (y.num.natAbs)) (b:M w' vb (x.den))=>Ci a b ht.1 hs.2 (by omega) (by omega))
 have CC:=Yg (fun w' va vb (a:M w' va (x.num.natAbs*y.den)) (b:M w' vb (y.num.natAbs*x.den))=>CG va vb _ _ w' a b)
 obtain ⟨p,hp⟩: ∃b,b=decide (x.num<0):=⟨_,rfl⟩
 try rw [←hp] at HT
 try rw [←hp] at HU
 try rw [←hp] at Hm1
 try rw [←hp] at Hm2
 try rw [←hp] at HV
 try rw [←hp] at Hm3
 try rw [←hp] at Hm4
 try rw [←hp] at CDA
 try rw [←hp] at CDB
 try rw [←hp] at CA
 try rw [←hp] at CB
 try rw [←hp] at CM1
 try rw [←hp] at CM2
 try rw [←hp] at CC
 try rw [←hp]
 have HPp:=Yg hp
 obtain ⟨q,hq⟩: ∃b,b=decide (y.num<0):=⟨_,rfl⟩
 try rw [←hq] at HT
 try rw [←hq] at HU
 try rw [←hq] at Hm1
 try rw [←hq] at Hm2
 try rw [←hq] at HV
 try rw [←hq] at Hm3
 try rw [←hq] at Hm4
 try rw [←hq] at CDA
 try rw [←hq] at CDB
 try rw [←hq] at CA
 try rw [←hq] at CB
 try rw [←hq] at CM1
 try rw [←hq] at CM2
 try rw [←hq] at CC
 try rw [←hq]
 have HPq:=Yg hq
 clear hu m1 m2 hp hv m3 m4 hq
 obtain ⟨sx,hsx⟩: ∃s,s=Cz x:=⟨_,rfl⟩
 rw [←h9] at CB
 rw [←hsx] at CA CB
 clear hsx h9 hs ht hj hk
 have hcb: -1≤Bx (x.num.natAbs*y.den) (y.num.natAbs*x.den)∧Bx (x.num.natAbs*y.den) (y.num.natAbs*x.den)≤1:=by unfold Bx;split<;>first|omega|(split<;>omega)
 obtain ⟨cc,hcc⟩: ∃c,c=Bx (x.num.natAbs*y.den) (y.num.natAbs*x.den):=⟨_,rfl⟩
 rw [←hcc] at CC hcb⊢
 clear hcc
 obtain ⟨hc1,hc2⟩:=hcb
 have hsb:(sx !=sx)=false:=by simp
 cases p
 ·skip
  go_enter Tryz.func33,Tryz.ntmps33
  have KN:=HT.out.k
  have U_e:=Yg (HU.out.kp KN)
  have m1_e:=Yg (Hm1.out.kp KN)
  have m2_e:=Yg (Hm2.out.kp KN)
  have V_e:=Yg (HV.out.kp KN)
  have m3_e:=Yg (Hm3.out.kp KN)
  have m4_e:=Yg (Hm4.out.kp KN)
  clear KN
  obtain ⟨g0,g1,g2,_⟩:=HT.out.ra.cells
  obtain ⟨h0,h1,h2,_⟩:=HT.out.rb.cells
  go_upto_region 1 with fail
  have T_2:=Yg (HT.out.kp (Below.refl _ _).drew)
  have U_2:=Yg (U_e.out.kp (Below.refl _ _).drew)
  have m1_2:=Yg (m1_e.out.kp (Below.refl _ _).drew)
  have m2_2:=Yg (m2_e.out.kp (Below.refl _ _).drew)
  have V_2:=Yg (V_e.out.kp (Below.refl _ _).drew)
  have m3_2:=Yg (m3_e.out.kp (Below.refl _ _).drew)
  have m4_2:=Yg (m4_e.out.kp (Below.refl _ _).drew)
  clear HT U_e m1_e m2_e V_e m3_e m4_e
  go_region_held3 (fun w'=>w'.cell? ⟨w.heap.size,0,none⟩=some (.bool false)∧w'.cell? ⟨w.heap.size,1,none⟩=some (.slice a1 l1 c1)∧w'.cell? ⟨w.heap.size,2,none⟩=some (.slice a2 l2 c2)∧w'.cell? ⟨w.heap.size+1,0,none⟩=some (.bool q)∧w'.cell? ⟨w.heap.size+1,1,none⟩=some (.slice a3 l3 c3)∧w'.cell? ⟨w.heap.size+1,2,none⟩=some (.slice a4 l4 c4))
   (first|(refine ⟨?_,?_,?_,?_,?_,?_⟩<;>assumption)|go_keep)
   (first
    | (go_at_call 44;(with_reducible refine (CA.out _ _ U_2.out).mono ?_);rintro e w3 ⟨rfl,k3⟩;have T_3:=Yg (T_2.out.kp k3);have U_3:=Yg (U_2.out.kp k3);have m1_3:=Yg (m1_2.out.kp k3);have m2_3:=Yg (m2_2.out.kp k3);have V_3:=Yg (V_2.out.kp k3);have m3_3:=Yg (m3_2.out.kp k3);have m4_3:=Yg (m4_2.out.kp k3);clear T_2 U_2 m1_2 m2_2 V_2 m3_2 m4_2;clear k3;obtain ⟨g0,g1,g2,_⟩:=T_3.out.ra.cells;obtain ⟨h0,h1,h2,_⟩:=T_3.out.rb.cells)
    | (go_at_call 44;(with_reducible refine (CB.out _ _ V_3.out).mono ?_);rintro e w4 ⟨rfl,k4⟩;have T_4:=Yg (T_3.out.kp k4);have U_4:=Yg (U_3.out.kp k4);have m1_4:=Yg (m1_3.out.kp k4);have m2_4:=Yg (m2_3.out.kp k4);have V_4:=Yg (V_3.out.kp k4);have m3_4:=Yg (m3_3.out.kp k4);have m4_4:=Yg (m4_3.out.kp k4);clear T_3 U_3 m1_3 m2_3 V_3 m3_3 m4_3;clear k4;obtain ⟨g0,g1,g2,_⟩:=T_4.out.ra.cells;obtain ⟨h0,h1,h2,_⟩:=T_4.out.rb.cells))
  go_upto_region 6 with fail
  have T_5:=Yg (T_4.out.kp (Below.refl _ _).drew)
  have U_5:=Yg (U_4.out.kp (Below.refl _ _).drew)
  have m1_5:=Yg (m1_4.out.kp (Below.refl _ _).drew)
  have m2_5:=Yg (m2_4.out.kp (Below.refl _ _).drew)
  have V_5:=Yg (V_4.out.kp (Below.refl _ _).drew)
  have m3_5:=Yg (m3_4.out.kp (Below.refl _ _).drew)
  have m4_5:=Yg (m4_4.out.kp (Below.refl _ _).drew)
  clear T_4 U_4 m1_4 m2_4 V_4 m3_4 m4_4
  go_region_held3 (fun w'=>w'.cell? ⟨w.heap.size,0,none⟩=some (.bool false)∧w'.cell? ⟨w.heap.size,1,none⟩=some (.slice a1 l1 c1)∧w'.cell? ⟨w.heap.size,2,none⟩=some (.slice a2 l2 c2)∧w'.cell? ⟨w.heap.size+1,0,none⟩=some (.bool q)∧w'.cell? ⟨w.heap.size+1,1,none⟩=some (.slice a3 l3 c3)∧w'.cell? ⟨w.heap.size+1,2,none⟩=some (.slice a4 l4 c4))
   (first|(refine ⟨?_,?_,?_,?_,?_,?_⟩<;>assumption)|go_keep)
   (first
    | (go_at_call 82;(with_reducible refine (CDB.out _ m3_5.out m4_5.out).mono ?_);rintro e w6 ⟨vB,rfl,hB,k6⟩;have T_6:=Yg (T_5.out.kp k6);have U_6:=Yg (U_5.out.kp k6);have m1_6:=Yg (m1_5.out.kp k6);have m2_6:=Yg (m2_5.out.kp k6);have V_6:=Yg (V_5.out.kp k6);have m3_6:=Yg (m3_5.out.kp k6);have m4_6:=Yg (m4_5.out.kp k6);clear T_5 U_5 m1_5 m2_5 V_5 m3_5 m4_5;have B_6:=Yg hB;clear hB k6;obtain ⟨g0,g1,g2,_⟩:=T_6.out.ra.cells;obtain ⟨h0,h1,h2,_⟩:=T_6.out.rb.cells)
    | (go_at_call 81;(with_reducible refine (CM1.out _ _ _ m1_6.out B_6.out).mono ?_);rintro e w7 ⟨vC,rfl,hC,k7⟩;have T_7:=Yg (T_6.out.kp k7);have U_7:=Yg (U_6.out.kp k7);have m1_7:=Yg (m1_6.out.kp k7);have m2_7:=Yg (m2_6.out.kp k7);have V_7:=Yg (V_6.out.kp k7);have m3_7:=Yg (m3_6.out.kp k7);have m4_7:=Yg (m4_6.out.kp k7);have B_7:=Yg (B_6.out.kp k7);clear T_6 U_6 m1_6 m2_6 V_6 m3_6 m4_6 B_6;have C_7:=Yg hC;clear hC k7;obtain ⟨g0,g1,g2,_⟩:=T_7.out.ra.cells;obtain ⟨h0,h1,h2,_⟩:=T_7.out.rb.cells)
    | (go_at_call 82;(with_reducible refine (CDA.out _ m1_7.out m2_7.out).mono ?_);rintro e w8 ⟨vA,rfl,hA,k8⟩;have T_8:=Yg (T_7.out.kp k8);have U_8:=Yg (U_7.out.kp k8);have m1_8:=Yg (m1_7.out.kp k8);have m2_8:=Yg (m2_7.out.kp k8);have V_8:=Yg (V_7.out.kp k8);have m3_8:=Yg (m3_7.out.kp k8);have m4_8:=Yg (m4_7.out.kp k8);have B_8:=Yg (B_7.out.kp k8);have C_8:=Yg (C_7.out.kp k8);clear T_7 U_7 m1_7 m2_7 V_7 m3_7 m4_7 B_7 C_7;have A_8:=Yg hA;clear hA k8;obtain ⟨g0,g1,g2,_⟩:=T_8.out.ra.cells;obtain ⟨h0,h1,h2,_⟩:=T_8.out.rb.cells)
    | (go_at_call 81;(with_reducible refine (CM2.out _ _ _ m3_8.out A_8.out).mono ?_);rintro e w9 ⟨vD,rfl,hD,k9⟩;have T_9:=Yg (T_8.out.kp k9);have U_9:=Yg (U_8.out.kp k9);have m1_9:=Yg (m1_8.out.kp k9);have m2_9:=Yg (m2_8.out.kp k9);have V_9:=Yg (V_8.out.kp k9);have m3_9:=Yg (m3_8.out.kp k9);have m4_9:=Yg (m4_8.out.kp k9);have B_9:=Yg (B_8.out.kp k9);have C_9:=Yg (C_8.out.kp k9);have A_9:=Yg (A_8.out.kp k9);clear T_8 U_8 m1_8 m2_8 V_8 m3_8 m4_8 B_8 C_8 A_8;have D_9:=Yg hD;clear hD k9;obtain ⟨g0,g1,g2,_⟩:=T_9.out.ra.cells;obtain ⟨h0,h1,h2,_⟩:=T_9.out.rb.cells)
    | (go_at_call 80;(with_reducible refine (CC.out _ _ _ C_9.out D_9.out).mono ?_);rintro e w10 ⟨rfl,k10⟩;have T_10:=Yg (T_9.out.kp k10);have U_10:=Yg (U_9.out.kp k10);have m1_10:=Yg (m1_9.out.kp k10);have m2_10:=Yg (m2_9.out.kp k10);have V_10:=Yg (V_9.out.kp k10);have m3_10:=Yg (m3_9.out.kp k10);have m4_10:=Yg (m4_9.out.kp k10);have B_10:=Yg (B_9.out.kp k10);have C_10:=Yg (C_9.out.kp k10);have A_10:=Yg (A_9.out.kp k10);have D_10:=Yg (D_9.out.kp k10);clear T_9 U_9 m1_9 m2_9 V_9 m3_9 m4_9 B_9 C_9 A_9 D_9;clear k10;obtain ⟨g0,g1,g2,_⟩:=T_10.out.ra.cells;obtain ⟨h0,h1,h2,_⟩:=T_10.out.rb.cells))
  go_wp2
  go_ret
  exact ⟨by simp,T_10.out.k⟩
 ·skip
  go_enter Tryz.func33,Tryz.ntmps33
  have KN:=HT.out.k
  have U_e:=Yg (HU.out.kp KN)
  have m1_e:=Yg (Hm1.out.kp KN)
  have m2_e:=Yg (Hm2.out.kp KN)
  have V_e:=Yg (HV.out.kp KN)
  have m3_e:=Yg (Hm3.out.kp KN)
  have m4_e:=Yg (Hm4.out.kp KN)
  clear KN
  obtain ⟨g0,g1,g2,_⟩:=HT.out.ra.cells
  obtain ⟨h0,h1,h2,_⟩:=HT.out.rb.cells
  go_upto_region 1 with fail
  have T_2:=Yg (HT.out.kp (Below.refl _ _).drew)
  have U_2:=Yg (U_e.out.kp (Below.refl _ _).drew)
  have m1_2:=Yg (m1_e.out.kp (Below.refl _ _).drew)
  have m2_2:=Yg (m2_e.out.kp (Below.refl _ _).drew)
  have V_2:=Yg (V_e.out.kp (Below.refl _ _).drew)
  have m3_2:=Yg (m3_e.out.kp (Below.refl _ _).drew)
  have m4_2:=Yg (m4_e.out.kp (Below.refl _ _).drew)
  clear HT U_e m1_e m2_e V_e m3_e m4_e
  go_region_held3 (fun w'=>w'.cell? ⟨w.heap.size,0,none⟩=some (.bool true)∧w'.cell? ⟨w.heap.size,1,none⟩=some (.slice a1 l1 c1)∧w'.cell? ⟨w.heap.size,2,none⟩=some (.slice a2 l2 c2)∧w'.cell? ⟨w.heap.size+1,0,none⟩=some (.bool q)∧w'.cell? ⟨w.heap.size+1,1,none⟩=some (.slice a3 l3 c3)∧w'.cell? ⟨w.heap.size+1,2,none⟩=some (.slice a4 l4 c4))
   (first|(refine ⟨?_,?_,?_,?_,?_,?_⟩<;>assumption)|go_keep)
   (first
    | (go_at_call 44;(with_reducible refine (CA.out _ _ U_2.out).mono ?_);rintro e w3 ⟨rfl,k3⟩;have T_3:=Yg (T_2.out.kp k3);have U_3:=Yg (U_2.out.kp k3);have m1_3:=Yg (m1_2.out.kp k3);have m2_3:=Yg (m2_2.out.kp k3);have V_3:=Yg (V_2.out.kp k3);have m3_3:=Yg (m3_2.out.kp k3);have m4_3:=Yg (m4_2.out.kp k3);clear T_2 U_2 m1_2 m2_2 V_2 m3_2 m4_2;clear k3;obtain ⟨g0,g1,g2,_⟩:=T_3.out.ra.cells;obtain ⟨h0,h1,h2,_⟩:=T_3.out.rb.cells)
    | (go_at_call 44;(with_reducible refine (CB.out _ _ V_3.out).mono ?_);rintro e w4 ⟨rfl,k4⟩;have T_4:=Yg (T_3.out.kp k4);have U_4:=Yg (U_3.out.kp k4);have m1_4:=Yg (m1_3.out.kp k4);have m2_4:=Yg (m2_3.out.kp k4);have V_4:=Yg (V_3.out.kp k4);have m3_4:=Yg (m3_3.out.kp k4);have m4_4:=Yg (m4_3.out.kp k4);clear T_3 U_3 m1_3 m2_3 V_3 m3_3 m4_3;clear k4;obtain ⟨g0,g1,g2,_⟩:=T_4.out.ra.cells;obtain ⟨h0,h1,h2,_⟩:=T_4.out.rb.cells))
  go_upto_region 6 with fail
  have T_5:=Yg (T_4.out.kp (Below.refl _ _).drew)
  have U_5:=Yg (U_4.out.kp (Below.refl _ _).drew)
  have m1_5:=Yg (m1_4.out.kp (Below.refl _ _).drew)
  have m2_5:=Yg (m2_4.out.kp (Below.refl _ _).drew)
  have V_5:=Yg (V_4.out.kp (Below.refl _ _).drew)
  have m3_5:=Yg (m3_4.out.kp (Below.refl _ _).drew)
  have m4_5:=Yg (m4_4.out.kp (Below.refl _ _).drew)
  clear T_4 U_4 m1_4 m2_4 V_4 m3_4 m4_4
  go_region_held3 (fun w'=>w'.cell? ⟨w.heap.size,0,none⟩=some (.bool true)∧w'.cell? ⟨w.heap.size,1,none⟩=some (.slice a1 l1 c1)∧w'.cell? ⟨w.heap.size,2,none⟩=some (.slice a2 l2 c2)∧w'.cell? ⟨w.heap.size+1,0,none⟩=some (.bool q)∧w'.cell? ⟨w.heap.size+1,1,none⟩=some (.slice a3 l3 c3)∧w'.cell? ⟨w.heap.size+1,2,none⟩=some (.slice a4 l4 c4))
   (first|(refine ⟨?_,?_,?_,?_,?_,?_⟩<;>assumption)|go_keep)
   (first
    | (go_at_call 82;(with_reducible refine (CDB.out _ m3_5.out m4_5.out).mono ?_);rintro e w6 ⟨vB,rfl,hB,k6⟩;have T_6:=Yg (T_5.out.kp k6);have U_6:=Yg (U_5.out.kp k6);have m1_6:=Yg (m1_5.out.kp k6);have m2_6:=Yg (m2_5.out.kp k6);have V_6:=Yg (V_5.out.kp k6);have m3_6:=Yg (m3_5.out.kp k6);have m4_6:=Yg (m4_5.out.kp k6);clear T_5 U_5 m1_5 m2_5 V_5 m3_5 m4_5;have B_6:=Yg hB;clear hB k6;obtain ⟨g0,g1,g2,_⟩:=T_6.out.ra.cells;obtain ⟨h0,h1,h2,_⟩:=T_6.out.rb.cells)
    | (go_at_call 81;(with_reducible refine (CM1.out _ _ _ m1_6.out B_6.out).mono ?_);rintro e w7 ⟨vC,rfl,hC,k7⟩;have T_7:=Yg (T_6.out.kp k7);have U_7:=Yg (U_6.out.kp k7);have m1_7:=Yg (m1_6.out.kp k7);have m2_7:=Yg (m2_6.out.kp k7);have V_7:=Yg (V_6.out.kp k7);have m3_7:=Yg (m3_6.out.kp k7);have m4_7:=Yg (m4_6.out.kp k7);have B_7:=Yg (B_6.out.kp k7);clear T_6 U_6 m1_6 m2_6 V_6 m3_6 m4_6 B_6;have C_7:=Yg hC;clear hC k7;obtain ⟨g0,g1,g2,_⟩:=T_7.out.ra.cells;obtain ⟨h0,h1,h2,_⟩:=T_7.out.rb.cells)
    | (go_at_call 82;(with_reducible refine (CDA.out _ m1_7.out m2_7.out).mono ?_);rintro e w8 ⟨vA,rfl,hA,k8⟩;have T_8:=Yg (T_7.out.kp k8);have U_8:=Yg (U_7.out.kp k8);have m1_8:=Yg (m1_7.out.kp k8);have m2_8:=Yg (m2_7.out.kp k8);have V_8:=Yg (V_7.out.kp k8);have m3_8:=Yg (m3_7.out.kp k8);have m4_8:=Yg (m4_7.out.kp k8);have B_8:=Yg (B_7.out.kp k8);have C_8:=Yg (C_7.out.kp k8);clear T_7 U_7 m1_7 m2_7 V_7 m3_7 m4_7 B_7 C_7;have A_8:=Yg hA;clear hA k8;obtain ⟨g0,g1,g2,_⟩:=T_8.out.ra.cells;obtain ⟨h0,h1,h2,_⟩:=T_8.out.rb.cells)
    | (go_at_call 81;(with_reducible refine (CM2.out _ _ _ m3_8.out A_8.out).mono ?_);rintro e w9 ⟨vD,rfl,hD,k9⟩;have T_9:=Yg (T_8.out.kp k9);have U_9:=Yg (U_8.out.kp k9);have m1_9:=Yg (m1_8.out.kp k9);have m2_9:=Yg (m2_8.out.kp k9);have V_9:=Yg (V_8.out.kp k9);have m3_9:=Yg (m3_8.out.kp k9);have m4_9:=Yg (m4_8.out.kp k9);have B_9:=Yg (B_8.out.kp k9);have C_9:=Yg (C_8.out.kp k9);have A_9:=Yg (A_8.out.kp k9);clear T_8 U_8 m1_8 m2_8 V_8 m3_8 m4_8 B_8 C_8 A_8;have D_9:=Yg hD;clear hD k9;obtain ⟨g0,g1,g2,_⟩:=T_9.out.ra.cells;obtain ⟨h0,h1,h2,_⟩:=T_9.out.rb.cells)
    | (go_at_call 80;(with_reducible refine (CC.out _ _ _ C_9.out D_9.out).mono ?_);rintro e w10 ⟨rfl,k10⟩;have T_10:=Yg (T_9.out.kp k10);have U_10:=Yg (U_9.out.kp k10);have m1_10:=Yg (m1_9.out.kp k10);have m2_10:=Yg (m2_9.out.kp k10);have V_10:=Yg (V_9.out.kp k10);have m3_10:=Yg (m3_9.out.kp k10);have m4_10:=Yg (m4_9.out.kp k10);have B_10:=Yg (B_9.out.kp k10);have C_10:=Yg (C_9.out.kp k10);have A_10:=Yg (A_9.out.kp k10);have D_10:=Yg (D_9.out.kp k10);clear T_9 U_9 m1_9 m2_9 V_9 m3_9 m4_9 B_9 C_9 A_9 D_9;clear k10;obtain ⟨g0,g1,g2,_⟩:=T_10.out.ra.cells;obtain ⟨h0,h1,h2,_⟩:=T_10.out.rb.cells))
  go_wp2
  go_ret
  exact ⟨rfl,T_10.out.k⟩
theorem Rl {w:World} {u:Value} {x:Rat} (hu:AA w u x) {v:Value} {y:Rat} (hv:AA w v y) {j k:Nat} (hs:RSz j x) (ht:RSz k y) (hj:j≤500000000) (hk:k≤500000000):
  Calls Tryz.prog 33 #[u,v] w fun e w'=>e= .returned (.int .i64 (C4 x y))∧Kp w w':=by
 by_cases h9:Cz x=Cz y
 ·have h:=MT hu hv hs ht hj hk h9
  have he:(if decide (x.num<0)=true then-Bx (x.num.natAbs*y.den) (y.num.natAbs*x.den) else Bx (x.num.natAbs*y.den) (y.num.natAbs*x.den))=C4 x y:=by
   unfold Cz at h9
   by_cases hx:x.num<0
   ·rw [if_pos (decide_eq_true hx),←R3]
    refine (N0 (by omega) ?_).symm
    by_cases hy:y.num≤0
    ·exact hy
    ·rw [if_neg (by omega),if_pos hx,if_neg (by omega),if_neg (by omega)] at h9
     omega
   ·rw [if_neg (by rw [decide_eq_false hx];decide)]
    refine (JW (by omega) ?_).symm
    by_cases hy:0≤y.num
    ·exact hy
    ·rw [if_neg hx,if_neg (by omega: ¬y.num=0),if_pos (by omega)] at h9
     split at h9<;>omega
  rw [he] at h
  exact h
 ·exact MU hu hv h9
end Go.Proofs.YtkmalkcgkcpcmaaGreatDoor
