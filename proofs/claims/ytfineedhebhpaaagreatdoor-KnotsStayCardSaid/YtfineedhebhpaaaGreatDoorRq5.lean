/-
  brepkernelref02.Same, Cmp: by walking their texts.
-/
import Derived.Test.YtfineedhebhpaaaGreatDoorBk
import Derived.Test.YtfineedhebhpaaaGreatDoorBr
namespace Go.Proofs.YtfineedhebhpaaaGreatDoor
open Lib renaming hid→Xu
set_option maxHeartbeats 16000000
open Go.RowKit
theorem NA (m n:Nat):decide (m=n)=(AT m n==0):=by
 by_cases h:m=n
 ·rw [decide_eq_true h,CW h];rfl
 ·rw [decide_eq_false h]
  symm
  refine beq_eq_false_iff_ne.2 ?_
  rcases Nat.lt_or_gt_of_ne h with h1|h1
  ·rw [BZ h1];decide
  ·rw [B5 h1];decide
theorem RI (m n:Nat):AT n m= -AT m n:=by
 rcases Nat.lt_trichotomy m n with h|h|h
 ·rw [BZ h,B5 h];rfl
 ·rw [CW h,CW h.symm];rfl
 ·rw [BZ h,B5 h]
set_option maxRecDepth 20000 in
theorem Od {w:World} {u:Value} {x:Rat} (hu:Ax w u x) {v:Value} {y:Rat} (hv:Ax w v y):
  Calls Tryz.prog 18 #[u,v] w fun e w'=>e= .returned (.bool (decide (x=y)))∧Kp w w':=by
 rw [IN,NA,NA]
 obtain ⟨a1,l1,c1,a2,l2,c2,rfl,m1,m2⟩:=hu.parts
 obtain ⟨a3,l3,c3,a4,l4,c4,rfl,m3,m4⟩:=hv.parts
 have HT:=Xu (P2.new w (.bool (decide (x.num<0))) (.slice a1 l1 c1) (.slice a2 l2 c2) (.bool (decide (y.num<0))) (.slice a3 l3 c3) (.slice a4 l4 c4))
 have HU:=Xu hu
 have Hm1:=Xu m1
 have Hm2:=Xu m2
 have HV:=Xu hv
 have Hm3:=Xu m3
 have Hm4:=Xu m4
 have CN:=Xu (fun w' (a:M w' (.slice a1 l1 c1) x.num.natAbs) (b:M w' (.slice a3 l3 c3) y.num.natAbs)=>Cu _ _ _ _ w' a b)
 have CK:=Xu (fun w' (a:M w' (.slice a2 l2 c2) (A0 x)) (b:M w' (.slice a4 l4 c4) (A0 y))=>Cu _ _ _ _ w' a b)
 obtain ⟨p,hp⟩: ∃b,b=decide (x.num<0):=⟨_,rfl⟩
 try rw [←hp] at HT
 try rw [←hp] at HU
 try rw [←hp] at Hm1
 try rw [←hp] at Hm2
 try rw [←hp] at HV
 try rw [←hp] at Hm3
 try rw [←hp] at Hm4
 try rw [←hp] at CN
 try rw [←hp] at CK
 try rw [←hp]
 have HPp:=Xu hp
 obtain ⟨q,hq⟩: ∃b,b=decide (y.num<0):=⟨_,rfl⟩
 try rw [←hq] at HT
 try rw [←hq] at HU
 try rw [←hq] at Hm1
 try rw [←hq] at Hm2
 try rw [←hq] at HV
 try rw [←hq] at Hm3
 try rw [←hq] at Hm4
 try rw [←hq] at CN
 try rw [←hq] at CK
 try rw [←hq]
 have HPq:=Xu hq
 clear hu m1 m2 hp hv m3 m4 hq
 obtain ⟨cn,hcn⟩: ∃c,c=AT x.num.natAbs y.num.natAbs:=⟨_,rfl⟩
 obtain ⟨ck,hck⟩: ∃c,c=AT (A0 x) (A0 y):=⟨_,rfl⟩
 rw [←hcn] at CN⊢
 rw [←hck] at CK⊢
 clear hcn hck
 have hpq:p=q∨q=!p:=by cases p<;>cases q<;>simp
 rcases hpq with hpq|hpq
 ·subst hpq
  have hpp:(p==p)=true:=by simp
  by_cases hc:cn=0
  ·subst hc
   have hz:((0:Int)==0)=true:=rfl
   have HPS:=Xu hpp
   clear hpp
   go_enter Tryz.func18,Tryz.ntmps18
   have KN:=HT.out.k
   have U_e:=Xu (HU.out.kp KN)
   have m1_e:=Xu (Hm1.out.kp KN)
   have m2_e:=Xu (Hm2.out.kp KN)
   have V_e:=Xu (HV.out.kp KN)
   have m3_e:=Xu (Hm3.out.kp KN)
   have m4_e:=Xu (Hm4.out.kp KN)
   clear KN
   obtain ⟨g0,g1,g2,_⟩:=HT.out.ra.cells
   obtain ⟨h0,h1,h2,_⟩:=HT.out.rb.cells
   go_wp2_with (go_at_call 88;(with_reducible refine (CN.out _ m1_e.out m3_e.out).mono ?_);rintro e w2 ⟨rfl,k2⟩;refine Hid.out ?_)
   refine Xu ?_
   have T_2:=Xu (HT.out.kp k2)
   have U_2:=Xu (U_e.out.kp k2)
   have m1_2:=Xu (m1_e.out.kp k2)
   have m2_2:=Xu (m2_e.out.kp k2)
   have V_2:=Xu (V_e.out.kp k2)
   have m3_2:=Xu (m3_e.out.kp k2)
   have m4_2:=Xu (m4_e.out.kp k2)
   clear HT U_e m1_e m2_e V_e m3_e m4_e
   clear k2
   obtain ⟨g0,g1,g2,_⟩:=T_2.out.ra.cells
   obtain ⟨h0,h1,h2,_⟩:=T_2.out.rb.cells
   go_wp2_with (go_at_call 88;(with_reducible refine (CK.out _ m2_2.out m4_2.out).mono ?_);rintro e w3 ⟨rfl,k3⟩;refine Hid.out ?_)
   refine Xu ?_
   have T_3:=Xu (T_2.out.kp k3)
   have U_3:=Xu (U_2.out.kp k3)
   have m1_3:=Xu (m1_2.out.kp k3)
   have m2_3:=Xu (m2_2.out.kp k3)
   have V_3:=Xu (V_2.out.kp k3)
   have m3_3:=Xu (m3_2.out.kp k3)
   have m4_3:=Xu (m4_2.out.kp k3)
   clear T_2 U_2 m1_2 m2_2 V_2 m3_2 m4_2
   clear k3
   obtain ⟨g0,g1,g2,_⟩:=T_3.out.ra.cells
   obtain ⟨h0,h1,h2,_⟩:=T_3.out.rb.cells
   go_wp2
   go_ret
   exact ⟨En (by rw [HPS.out];simp),T_3.out.k⟩
  ·have hcb:(cn==0)=false:=beq_eq_false_iff_ne.2 hc
   have HPS:=Xu hpp
   have HCB:=Xu hcb
   clear hc hpp
   go_enter Tryz.func18,Tryz.ntmps18
   have KN:=HT.out.k
   have U_e:=Xu (HU.out.kp KN)
   have m1_e:=Xu (Hm1.out.kp KN)
   have m2_e:=Xu (Hm2.out.kp KN)
   have V_e:=Xu (HV.out.kp KN)
   have m3_e:=Xu (Hm3.out.kp KN)
   have m4_e:=Xu (Hm4.out.kp KN)
   clear KN
   obtain ⟨g0,g1,g2,_⟩:=HT.out.ra.cells
   obtain ⟨h0,h1,h2,_⟩:=HT.out.rb.cells
   go_wp2_with (go_at_call 88;(with_reducible refine (CN.out _ m1_e.out m3_e.out).mono ?_);rintro e w2 ⟨rfl,k2⟩;refine Hid.out ?_)
   refine Xu ?_
   have T_2:=Xu (HT.out.kp k2)
   have U_2:=Xu (U_e.out.kp k2)
   have m1_2:=Xu (m1_e.out.kp k2)
   have m2_2:=Xu (m2_e.out.kp k2)
   have V_2:=Xu (V_e.out.kp k2)
   have m3_2:=Xu (m3_e.out.kp k2)
   have m4_2:=Xu (m4_e.out.kp k2)
   clear HT U_e m1_e m2_e V_e m3_e m4_e
   clear k2
   obtain ⟨g0,g1,g2,_⟩:=T_2.out.ra.cells
   obtain ⟨h0,h1,h2,_⟩:=T_2.out.rb.cells
   go_wp2
   go_ret
   exact ⟨En (by rw [HPS.out,HCB.out];rfl),T_2.out.k⟩
 ·subst hpq
  cases p
  all_goals
   go_enter Tryz.func18,Tryz.ntmps18
   have KN:=HT.out.k
   have U_e:=Xu (HU.out.kp KN)
   have m1_e:=Xu (Hm1.out.kp KN)
   have m2_e:=Xu (Hm2.out.kp KN)
   have V_e:=Xu (HV.out.kp KN)
   have m3_e:=Xu (Hm3.out.kp KN)
   have m4_e:=Xu (Hm4.out.kp KN)
   clear KN
   obtain ⟨g0,g1,g2,_⟩:=HT.out.ra.cells
   obtain ⟨h0,h1,h2,_⟩:=HT.out.rb.cells
   go_wp2
   go_ret
   exact ⟨En (by simp),HT.out.k⟩
set_option maxRecDepth 20000 in
theorem Ms {w:World} {u:Value} {x:Rat} (hu:Ax w u x) {v:Value} {y:Rat} (hv:Ax w v y) (h9:Co x≠Co y):
  Calls Tryz.prog 76 #[u,v] w fun e w'=>e= .returned (.int .i64 (Cm x y))∧Kp w w':=by
 have hv:Cm x y=if Co x<Co y then-1 else 1:=by
  rw [JC h9]
  split<;>omega
 rw [hv]
 clear hv
 obtain ⟨a1,l1,c1,a2,l2,c2,rfl,m1,m2⟩:=hu.parts
 obtain ⟨a3,l3,c3,a4,l4,c4,rfl,m3,m4⟩:=hv.parts
 have HT:=Xu (P2.new w (.bool (decide (x.num<0))) (.slice a1 l1 c1) (.slice a2 l2 c2) (.bool (decide (y.num<0))) (.slice a3 l3 c3) (.slice a4 l4 c4))
 have HU:=Xu hu
 have HV:=Xu hv
 have CA:=Xu (fun w' a (ha:Ax w' a x)=>Fn ha)
 have CB:=Xu (fun w' a (ha:Ax w' a y)=>Fn ha)
 obtain ⟨p,hp⟩: ∃b,b=decide (x.num<0):=⟨_,rfl⟩
 try rw [←hp] at HT
 try rw [←hp] at HU
 try rw [←hp] at HV
 try rw [←hp] at CA
 try rw [←hp] at CB
 try rw [←hp]
 have HPp:=Xu hp
 obtain ⟨q,hq⟩: ∃b,b=decide (y.num<0):=⟨_,rfl⟩
 try rw [←hq] at HT
 try rw [←hq] at HU
 try rw [←hq] at HV
 try rw [←hq] at CA
 try rw [←hq] at CB
 try rw [←hq]
 have HPq:=Xu hq
 clear hu m1 m2 hp hv m3 m4 hq
 obtain ⟨sx,hsx⟩: ∃s,s=Co x:=⟨_,rfl⟩
 obtain ⟨sy,hsy⟩: ∃s,s=Co y:=⟨_,rfl⟩
 rw [←hsx] at CA h9⊢
 rw [←hsy] at CB h9⊢
 clear hsx hsy
 have hne:(sx !=sy)=true:=by rw [bne_iff_ne];exact h9
 by_cases hlt:sx<sy
 ·rw [if_pos hlt]
  have hdl:decide (sx<sy)=true:=decide_eq_true hlt
  clear h9
  go_enter Tryz.func76,Tryz.ntmps76
  have KN:=HT.out.k
  have U_e:=Xu (HU.out.kp KN)
  have V_e:=Xu (HV.out.kp KN)
  clear KN
  obtain ⟨g0,g1,g2,_⟩:=HT.out.ra.cells
  obtain ⟨h0,h1,h2,_⟩:=HT.out.rb.cells
  go_upto_region 1 with fail
  have T_2:=Xu (HT.out.kp (Below.refl _ _).drew)
  have U_2:=Xu (U_e.out.kp (Below.refl _ _).drew)
  have V_2:=Xu (V_e.out.kp (Below.refl _ _).drew)
  clear HT U_e V_e
  go_region_held3 (fun w'=>w'.cell? ⟨w.heap.size,0,none⟩=some (.bool p)∧w'.cell? ⟨w.heap.size,1,none⟩=some (.slice a1 l1 c1)∧w'.cell? ⟨w.heap.size,2,none⟩=some (.slice a2 l2 c2)∧w'.cell? ⟨w.heap.size+1,0,none⟩=some (.bool q)∧w'.cell? ⟨w.heap.size+1,1,none⟩=some (.slice a3 l3 c3)∧w'.cell? ⟨w.heap.size+1,2,none⟩=some (.slice a4 l4 c4))
   (first|(refine ⟨?_,?_,?_,?_,?_,?_⟩<;>assumption)|go_keep)
   (first
    | (go_at_call 152;(with_reducible refine (CA.out _ _ U_2.out).mono ?_);rintro e w3 ⟨rfl,k3⟩;have T_3:=Xu (T_2.out.kp k3);have U_3:=Xu (U_2.out.kp k3);have V_3:=Xu (V_2.out.kp k3);clear T_2 U_2 V_2;clear k3;obtain ⟨g0,g1,g2,_⟩:=T_3.out.ra.cells;obtain ⟨h0,h1,h2,_⟩:=T_3.out.rb.cells)
    | (go_at_call 152;(with_reducible refine (CB.out _ _ V_3.out).mono ?_);rintro e w4 ⟨rfl,k4⟩;have T_4:=Xu (T_3.out.kp k4);have U_4:=Xu (U_3.out.kp k4);have V_4:=Xu (V_3.out.kp k4);clear T_3 U_3 V_3;clear k4;obtain ⟨g0,g1,g2,_⟩:=T_4.out.ra.cells;obtain ⟨h0,h1,h2,_⟩:=T_4.out.rb.cells))
  go_wp2
  go_ret
  exact ⟨rfl,T_4.out.k⟩
 ·rw [if_neg hlt]
  have hdl:decide (sx<sy)=false:=decide_eq_false hlt
  clear h9
  go_enter Tryz.func76,Tryz.ntmps76
  have KN:=HT.out.k
  have U_e:=Xu (HU.out.kp KN)
  have V_e:=Xu (HV.out.kp KN)
  clear KN
  obtain ⟨g0,g1,g2,_⟩:=HT.out.ra.cells
  obtain ⟨h0,h1,h2,_⟩:=HT.out.rb.cells
  go_upto_region 1 with fail
  have T_2:=Xu (HT.out.kp (Below.refl _ _).drew)
  have U_2:=Xu (U_e.out.kp (Below.refl _ _).drew)
  have V_2:=Xu (V_e.out.kp (Below.refl _ _).drew)
  clear HT U_e V_e
  go_region_held3 (fun w'=>w'.cell? ⟨w.heap.size,0,none⟩=some (.bool p)∧w'.cell? ⟨w.heap.size,1,none⟩=some (.slice a1 l1 c1)∧w'.cell? ⟨w.heap.size,2,none⟩=some (.slice a2 l2 c2)∧w'.cell? ⟨w.heap.size+1,0,none⟩=some (.bool q)∧w'.cell? ⟨w.heap.size+1,1,none⟩=some (.slice a3 l3 c3)∧w'.cell? ⟨w.heap.size+1,2,none⟩=some (.slice a4 l4 c4))
   (first|(refine ⟨?_,?_,?_,?_,?_,?_⟩<;>assumption)|go_keep)
   (first
    | (go_at_call 152;(with_reducible refine (CA.out _ _ U_2.out).mono ?_);rintro e w3 ⟨rfl,k3⟩;have T_3:=Xu (T_2.out.kp k3);have U_3:=Xu (U_2.out.kp k3);have V_3:=Xu (V_2.out.kp k3);clear T_2 U_2 V_2;clear k3;obtain ⟨g0,g1,g2,_⟩:=T_3.out.ra.cells;obtain ⟨h0,h1,h2,_⟩:=T_3.out.rb.cells)
    | (go_at_call 152;(with_reducible refine (CB.out _ _ V_3.out).mono ?_);rintro e w4 ⟨rfl,k4⟩;have T_4:=Xu (T_3.out.kp k4);have U_4:=Xu (U_3.out.kp k4);have V_4:=Xu (V_3.out.kp k4);clear T_3 U_3 V_3;clear k4;obtain ⟨g0,g1,g2,_⟩:=T_4.out.ra.cells;obtain ⟨h0,h1,h2,_⟩:=T_4.out.rb.cells))
  go_wp2
  go_ret
  exact ⟨rfl,T_4.out.k⟩
set_option maxRecDepth 20000 in
theorem Mr {w:World} {u:Value} {x:Rat} (hu:Ax w u x) {v:Value} {y:Rat} (hv:Ax w v y) {j k:Nat} (hs:RSz j x) (ht:RSz k y) (hj:j≤500000000) (hk:k≤500000000) (h9:Co x=Co y):
  Calls Tryz.prog 76 #[u,v] w fun e w'=>e= .returned (.int .i64 (if decide (x.num<0)=true then-AT (x.num.natAbs*y.den) (y.num.natAbs*x.den) else AT (x.num.natAbs*y.den) (y.num.natAbs*x.den)))∧Kp w w':=by
 obtain ⟨a1,l1,c1,a2,l2,c2,rfl,m1,m2⟩:=hu.parts
 obtain ⟨a3,l3,c3,a4,l4,c4,rfl,m3,m4⟩:=hv.parts
 have HT:=Xu (P2.new w (.bool (decide (x.num<0))) (.slice a1 l1 c1) (.slice a2 l2 c2) (.bool (decide (y.num<0))) (.slice a3 l3 c3) (.slice a4 l4 c4))
 have HU:=Xu hu
 have Hm1:=Xu m1
 have Hm2:=Xu m2
 have HV:=Xu hv
 have Hm3:=Xu m3
 have Hm4:=Xu m4
 have CDA:=Xu (fun w' (a:M w' (.slice a1 l1 c1) x.num.natAbs) (b:M w' (.slice a2 l2 c2) (A0 x))=>EL (s:=decide (x.num<0)) a b)
 have CDB:=Xu (fun w' (a:M w' (.slice a3 l3 c3) y.num.natAbs) (b:M w' (.slice a4 l4 c4) (A0 y))=>EL (s:=decide (y.num<0)) a b)
 have CA:=Xu (fun w' a (ha:Ax w' a x)=>Fn ha)
 have CB:=Xu (fun w' a (ha:Ax w' a y)=>Fn ha)
 have CM1:=Xu (fun w' va vb (a:M w' va (x.num.natAbs)) (b:M w' vb (y.den))=>Ci a b hs.1 ht.2 (by omega) (by omega))
 have CM2:=Xu (fun w' va vb (a:M w' va (y.num.natAbs)) (b:M w' vb (x.den))=>Ci a b ht.1 hs.2 (by omega) (by omega))
 have CC:=Xu (fun w' va vb (a:M w' va (x.num.natAbs*y.den)) (b:M w' vb (y.num.natAbs*x.den))=>Cu va vb _ _ w' a b)
 obtain ⟨p,hp⟩: ∃b,b=decide (x.num<0):=⟨_,rfl⟩
 try rw [←hp] at HT
 try rw [←hp] at HU
 try rw [←hp] at Hm1
 try rw [←hp] at Hm2
 try rw [←hp] at HV
 try rw [←hp] at Hm3
 try rw [←hp] at Hm4
 try rw [←hp] at CDA
 try rw [←hp] at CDB
 try rw [←hp] at CA
 try rw [←hp] at CB
 try rw [←hp] at CM1
 try rw [←hp] at CM2
 try rw [←hp] at CC
 try rw [←hp]
 have HPp:=Xu hp
 obtain ⟨q,hq⟩: ∃b,b=decide (y.num<0):=⟨_,rfl⟩
 try rw [←hq] at HT
 try rw [←hq] at HU
 try rw [←hq] at Hm1
 try rw [←hq] at Hm2
 try rw [←hq] at HV
 try rw [←hq] at Hm3
 try rw [←hq] at Hm4
 try rw [←hq] at CDA
 try rw [←hq] at CDB
 try rw [←hq] at CA
 try rw [←hq] at CB
 try rw [←hq] at CM1
 try rw [←hq] at CM2
 try rw [←hq] at CC
 try rw [←hq]
 have HPq:=Xu hq
 clear hu m1 m2 hp hv m3 m4 hq
 obtain ⟨sx,hsx⟩: ∃s,s=Co x:=⟨_,rfl⟩
 rw [←h9] at CB
 rw [←hsx] at CA CB
 clear hsx h9 hs ht hj hk
 have hcb: -1≤AT (x.num.natAbs*y.den) (y.num.natAbs*x.den)∧AT (x.num.natAbs*y.den) (y.num.natAbs*x.den)≤1:=by unfold AT;split<;>first|omega|(split<;>omega)
 obtain ⟨cc,hcc⟩: ∃c,c=AT (x.num.natAbs*y.den) (y.num.natAbs*x.den):=⟨_,rfl⟩
 rw [←hcc] at CC hcb⊢
 clear hcc
 obtain ⟨hc1,hc2⟩:=hcb
 have hsb:(sx !=sx)=false:=by simp
 cases p
 ·skip
  go_enter Tryz.func76,Tryz.ntmps76
  have KN:=HT.out.k
  have U_e:=Xu (HU.out.kp KN)
  have m1_e:=Xu (Hm1.out.kp KN)
  have m2_e:=Xu (Hm2.out.kp KN)
  have V_e:=Xu (HV.out.kp KN)
  have m3_e:=Xu (Hm3.out.kp KN)
  have m4_e:=Xu (Hm4.out.kp KN)
  clear KN
  obtain ⟨g0,g1,g2,_⟩:=HT.out.ra.cells
  obtain ⟨h0,h1,h2,_⟩:=HT.out.rb.cells
  go_upto_region 1 with fail
  have T_2:=Xu (HT.out.kp (Below.refl _ _).drew)
  have U_2:=Xu (U_e.out.kp (Below.refl _ _).drew)
  have m1_2:=Xu (m1_e.out.kp (Below.refl _ _).drew)
  have m2_2:=Xu (m2_e.out.kp (Below.refl _ _).drew)
  have V_2:=Xu (V_e.out.kp (Below.refl _ _).drew)
  have m3_2:=Xu (m3_e.out.kp (Below.refl _ _).drew)
  have m4_2:=Xu (m4_e.out.kp (Below.refl _ _).drew)
  clear HT U_e m1_e m2_e V_e m3_e m4_e
  go_region_held3 (fun w'=>w'.cell? ⟨w.heap.size,0,none⟩=some (.bool false)∧w'.cell? ⟨w.heap.size,1,none⟩=some (.slice a1 l1 c1)∧w'.cell? ⟨w.heap.size,2,none⟩=some (.slice a2 l2 c2)∧w'.cell? ⟨w.heap.size+1,0,none⟩=some (.bool q)∧w'.cell? ⟨w.heap.size+1,1,none⟩=some (.slice a3 l3 c3)∧w'.cell? ⟨w.heap.size+1,2,none⟩=some (.slice a4 l4 c4))
   (first|(refine ⟨?_,?_,?_,?_,?_,?_⟩<;>assumption)|go_keep)
   (first
    | (go_at_call 152;(with_reducible refine (CA.out _ _ U_2.out).mono ?_);rintro e w3 ⟨rfl,k3⟩;have T_3:=Xu (T_2.out.kp k3);have U_3:=Xu (U_2.out.kp k3);have m1_3:=Xu (m1_2.out.kp k3);have m2_3:=Xu (m2_2.out.kp k3);have V_3:=Xu (V_2.out.kp k3);have m3_3:=Xu (m3_2.out.kp k3);have m4_3:=Xu (m4_2.out.kp k3);clear T_2 U_2 m1_2 m2_2 V_2 m3_2 m4_2;clear k3;obtain ⟨g0,g1,g2,_⟩:=T_3.out.ra.cells;obtain ⟨h0,h1,h2,_⟩:=T_3.out.rb.cells)
    | (go_at_call 152;(with_reducible refine (CB.out _ _ V_3.out).mono ?_);rintro e w4 ⟨rfl,k4⟩;have T_4:=Xu (T_3.out.kp k4);have U_4:=Xu (U_3.out.kp k4);have m1_4:=Xu (m1_3.out.kp k4);have m2_4:=Xu (m2_3.out.kp k4);have V_4:=Xu (V_3.out.kp k4);have m3_4:=Xu (m3_3.out.kp k4);have m4_4:=Xu (m4_3.out.kp k4);clear T_3 U_3 m1_3 m2_3 V_3 m3_3 m4_3;clear k4;obtain ⟨g0,g1,g2,_⟩:=T_4.out.ra.cells;obtain ⟨h0,h1,h2,_⟩:=T_4.out.rb.cells))
  go_upto_region 6 with fail
  have T_5:=Xu (T_4.out.kp (Below.refl _ _).drew)
  have U_5:=Xu (U_4.out.kp (Below.refl _ _).drew)
  have m1_5:=Xu (m1_4.out.kp (Below.refl _ _).drew)
  have m2_5:=Xu (m2_4.out.kp (Below.refl _ _).drew)
  have V_5:=Xu (V_4.out.kp (Below.refl _ _).drew)
  have m3_5:=Xu (m3_4.out.kp (Below.refl _ _).drew)
  have m4_5:=Xu (m4_4.out.kp (Below.refl _ _).drew)
  clear T_4 U_4 m1_4 m2_4 V_4 m3_4 m4_4
  go_region_held3 (fun w'=>w'.cell? ⟨w.heap.size,0,none⟩=some (.bool false)∧w'.cell? ⟨w.heap.size,1,none⟩=some (.slice a1 l1 c1)∧w'.cell? ⟨w.heap.size,2,none⟩=some (.slice a2 l2 c2)∧w'.cell? ⟨w.heap.size+1,0,none⟩=some (.bool q)∧w'.cell? ⟨w.heap.size+1,1,none⟩=some (.slice a3 l3 c3)∧w'.cell? ⟨w.heap.size+1,2,none⟩=some (.slice a4 l4 c4))
   (first|(refine ⟨?_,?_,?_,?_,?_,?_⟩<;>assumption)|go_keep)
   (first
    | (go_at_call 128;(with_reducible refine (CDB.out _ m3_5.out m4_5.out).mono ?_);rintro e w6 ⟨vB,rfl,hB,k6⟩;have T_6:=Xu (T_5.out.kp k6);have U_6:=Xu (U_5.out.kp k6);have m1_6:=Xu (m1_5.out.kp k6);have m2_6:=Xu (m2_5.out.kp k6);have V_6:=Xu (V_5.out.kp k6);have m3_6:=Xu (m3_5.out.kp k6);have m4_6:=Xu (m4_5.out.kp k6);clear T_5 U_5 m1_5 m2_5 V_5 m3_5 m4_5;have B_6:=Xu hB;clear hB k6;obtain ⟨g0,g1,g2,_⟩:=T_6.out.ra.cells;obtain ⟨h0,h1,h2,_⟩:=T_6.out.rb.cells)
    | (go_at_call 127;(with_reducible refine (CM1.out _ _ _ m1_6.out B_6.out).mono ?_);rintro e w7 ⟨vC,rfl,hC,k7⟩;have T_7:=Xu (T_6.out.kp k7);have U_7:=Xu (U_6.out.kp k7);have m1_7:=Xu (m1_6.out.kp k7);have m2_7:=Xu (m2_6.out.kp k7);have V_7:=Xu (V_6.out.kp k7);have m3_7:=Xu (m3_6.out.kp k7);have m4_7:=Xu (m4_6.out.kp k7);have B_7:=Xu (B_6.out.kp k7);clear T_6 U_6 m1_6 m2_6 V_6 m3_6 m4_6 B_6;have C_7:=Xu hC;clear hC k7;obtain ⟨g0,g1,g2,_⟩:=T_7.out.ra.cells;obtain ⟨h0,h1,h2,_⟩:=T_7.out.rb.cells)
    | (go_at_call 128;(with_reducible refine (CDA.out _ m1_7.out m2_7.out).mono ?_);rintro e w8 ⟨vA,rfl,hA,k8⟩;have T_8:=Xu (T_7.out.kp k8);have U_8:=Xu (U_7.out.kp k8);have m1_8:=Xu (m1_7.out.kp k8);have m2_8:=Xu (m2_7.out.kp k8);have V_8:=Xu (V_7.out.kp k8);have m3_8:=Xu (m3_7.out.kp k8);have m4_8:=Xu (m4_7.out.kp k8);have B_8:=Xu (B_7.out.kp k8);have C_8:=Xu (C_7.out.kp k8);clear T_7 U_7 m1_7 m2_7 V_7 m3_7 m4_7 B_7 C_7;have A_8:=Xu hA;clear hA k8;obtain ⟨g0,g1,g2,_⟩:=T_8.out.ra.cells;obtain ⟨h0,h1,h2,_⟩:=T_8.out.rb.cells)
    | (go_at_call 127;(with_reducible refine (CM2.out _ _ _ m3_8.out A_8.out).mono ?_);rintro e w9 ⟨vD,rfl,hD,k9⟩;have T_9:=Xu (T_8.out.kp k9);have U_9:=Xu (U_8.out.kp k9);have m1_9:=Xu (m1_8.out.kp k9);have m2_9:=Xu (m2_8.out.kp k9);have V_9:=Xu (V_8.out.kp k9);have m3_9:=Xu (m3_8.out.kp k9);have m4_9:=Xu (m4_8.out.kp k9);have B_9:=Xu (B_8.out.kp k9);have C_9:=Xu (C_8.out.kp k9);have A_9:=Xu (A_8.out.kp k9);clear T_8 U_8 m1_8 m2_8 V_8 m3_8 m4_8 B_8 C_8 A_8;have D_9:=Xu hD;clear hD k9;obtain ⟨g0,g1,g2,_⟩:=T_9.out.ra.cells;obtain ⟨h0,h1,h2,_⟩:=T_9.out.rb.cells)
    | (go_at_call 88;(with_reducible refine (CC.out _ _ _ C_9.out D_9.out).mono ?_);rintro e w10 ⟨rfl,k10⟩;have T_10:=Xu (T_9.out.kp k10);have U_10:=Xu (U_9.out.kp k10);have m1_10:=Xu (m1_9.out.kp k10);have m2_10:=Xu (m2_9.out.kp k10);have V_10:=Xu (V_9.out.kp k10);have m3_10:=Xu (m3_9.out.kp k10);have m4_10:=Xu (m4_9.out.kp k10);have B_10:=Xu (B_9.out.kp k10);have C_10:=Xu (C_9.out.kp k10);have A_10:=Xu (A_9.out.kp k10);have D_10:=Xu (D_9.out.kp k10);clear T_9 U_9 m1_9 m2_9 V_9 m3_9 m4_9 B_9 C_9 A_9 D_9;clear k10;obtain ⟨g0,g1,g2,_⟩:=T_10.out.ra.cells;obtain ⟨h0,h1,h2,_⟩:=T_10.out.rb.cells))
  go_wp2
  go_ret
  exact ⟨by simp,T_10.out.k⟩
 ·skip
  go_enter Tryz.func76,Tryz.ntmps76
  have KN:=HT.out.k
  have U_e:=Xu (HU.out.kp KN)
  have m1_e:=Xu (Hm1.out.kp KN)
  have m2_e:=Xu (Hm2.out.kp KN)
  have V_e:=Xu (HV.out.kp KN)
  have m3_e:=Xu (Hm3.out.kp KN)
  have m4_e:=Xu (Hm4.out.kp KN)
  clear KN
  obtain ⟨g0,g1,g2,_⟩:=HT.out.ra.cells
  obtain ⟨h0,h1,h2,_⟩:=HT.out.rb.cells
  go_upto_region 1 with fail
  have T_2:=Xu (HT.out.kp (Below.refl _ _).drew)
  have U_2:=Xu (U_e.out.kp (Below.refl _ _).drew)
  have m1_2:=Xu (m1_e.out.kp (Below.refl _ _).drew)
  have m2_2:=Xu (m2_e.out.kp (Below.refl _ _).drew)
  have V_2:=Xu (V_e.out.kp (Below.refl _ _).drew)
  have m3_2:=Xu (m3_e.out.kp (Below.refl _ _).drew)
  have m4_2:=Xu (m4_e.out.kp (Below.refl _ _).drew)
  clear HT U_e m1_e m2_e V_e m3_e m4_e
  go_region_held3 (fun w'=>w'.cell? ⟨w.heap.size,0,none⟩=some (.bool true)∧w'.cell? ⟨w.heap.size,1,none⟩=some (.slice a1 l1 c1)∧w'.cell? ⟨w.heap.size,2,none⟩=some (.slice a2 l2 c2)∧w'.cell? ⟨w.heap.size+1,0,none⟩=some (.bool q)∧w'.cell? ⟨w.heap.size+1,1,none⟩=some (.slice a3 l3 c3)∧w'.cell? ⟨w.heap.size+1,2,none⟩=some (.slice a4 l4 c4))
   (first|(refine ⟨?_,?_,?_,?_,?_,?_⟩<;>assumption)|go_keep)
   (first
    | (go_at_call 152;(with_reducible refine (CA.out _ _ U_2.out).mono ?_);rintro e w3 ⟨rfl,k3⟩;have T_3:=Xu (T_2.out.kp k3);have U_3:=Xu (U_2.out.kp k3);have m1_3:=Xu (m1_2.out.kp k3);have m2_3:=Xu (m2_2.out.kp k3);have V_3:=Xu (V_2.out.kp k3);have m3_3:=Xu (m3_2.out.kp k3);have m4_3:=Xu (m4_2.out.kp k3);clear T_2 U_2 m1_2 m2_2 V_2 m3_2 m4_2;clear k3;obtain ⟨g0,g1,g2,_⟩:=T_3.out.ra.cells;obtain ⟨h0,h1,h2,_⟩:=T_3.out.rb.cells)
    | (go_at_call 152;(with_reducible refine (CB.out _ _ V_3.out).mono ?_);rintro e w4 ⟨rfl,k4⟩;have T_4:=Xu (T_3.out.kp k4);have U_4:=Xu (U_3.out.kp k4);have m1_4:=Xu (m1_3.out.kp k4);have m2_4:=Xu (m2_3.out.kp k4);have V_4:=Xu (V_3.out.kp k4);have m3_4:=Xu (m3_3.out.kp k4);have m4_4:=Xu (m4_3.out.kp k4);clear T_3 U_3 m1_3 m2_3 V_3 m3_3 m4_3;clear k4;obtain ⟨g0,g1,g2,_⟩:=T_4.out.ra.cells;obtain ⟨h0,h1,h2,_⟩:=T_4.out.rb.cells))
  go_upto_region 6 with fail
  have T_5:=Xu (T_4.out.kp (Below.refl _ _).drew)
  have U_5:=Xu (U_4.out.kp (Below.refl _ _).drew)
  have m1_5:=Xu (m1_4.out.kp (Below.refl _ _).drew)
  have m2_5:=Xu (m2_4.out.kp (Below.refl _ _).drew)
  have V_5:=Xu (V_4.out.kp (Below.refl _ _).drew)
  have m3_5:=Xu (m3_4.out.kp (Below.refl _ _).drew)
  have m4_5:=Xu (m4_4.out.kp (Below.refl _ _).drew)
  clear T_4 U_4 m1_4 m2_4 V_4 m3_4 m4_4
  go_region_held3 (fun w'=>w'.cell? ⟨w.heap.size,0,none⟩=some (.bool true)∧w'.cell? ⟨w.heap.size,1,none⟩=some (.slice a1 l1 c1)∧w'.cell? ⟨w.heap.size,2,none⟩=some (.slice a2 l2 c2)∧w'.cell? ⟨w.heap.size+1,0,none⟩=some (.bool q)∧w'.cell? ⟨w.heap.size+1,1,none⟩=some (.slice a3 l3 c3)∧w'.cell? ⟨w.heap.size+1,2,none⟩=some (.slice a4 l4 c4))
   (first|(refine ⟨?_,?_,?_,?_,?_,?_⟩<;>assumption)|go_keep)
   (first
    | (go_at_call 128;(with_reducible refine (CDB.out _ m3_5.out m4_5.out).mono ?_);rintro e w6 ⟨vB,rfl,hB,k6⟩;have T_6:=Xu (T_5.out.kp k6);have U_6:=Xu (U_5.out.kp k6);have m1_6:=Xu (m1_5.out.kp k6);have m2_6:=Xu (m2_5.out.kp k6);have V_6:=Xu (V_5.out.kp k6);have m3_6:=Xu (m3_5.out.kp k6);have m4_6:=Xu (m4_5.out.kp k6);clear T_5 U_5 m1_5 m2_5 V_5 m3_5 m4_5;have B_6:=Xu hB;clear hB k6;obtain ⟨g0,g1,g2,_⟩:=T_6.out.ra.cells;obtain ⟨h0,h1,h2,_⟩:=T_6.out.rb.cells)
    | (go_at_call 127;(with_reducible refine (CM1.out _ _ _ m1_6.out B_6.out).mono ?_);rintro e w7 ⟨vC,rfl,hC,k7⟩;have T_7:=Xu (T_6.out.kp k7);have U_7:=Xu (U_6.out.kp k7);have m1_7:=Xu (m1_6.out.kp k7);have m2_7:=Xu (m2_6.out.kp k7);have V_7:=Xu (V_6.out.kp k7);have m3_7:=Xu (m3_6.out.kp k7);have m4_7:=Xu (m4_6.out.kp k7);have B_7:=Xu (B_6.out.kp k7);clear T_6 U_6 m1_6 m2_6 V_6 m3_6 m4_6 B_6;have C_7:=Xu hC;clear hC k7;obtain ⟨g0,g1,g2,_⟩:=T_7.out.ra.cells;obtain ⟨h0,h1,h2,_⟩:=T_7.out.rb.cells)
    | (go_at_call 128;(with_reducible refine (CDA.out _ m1_7.out m2_7.out).mono ?_);rintro e w8 ⟨vA,rfl,hA,k8⟩;have T_8:=Xu (T_7.out.kp k8);have U_8:=Xu (U_7.out.kp k8);have m1_8:=Xu (m1_7.out.kp k8);have m2_8:=Xu (m2_7.out.kp k8);have V_8:=Xu (V_7.out.kp k8);have m3_8:=Xu (m3_7.out.kp k8);have m4_8:=Xu (m4_7.out.kp k8);have B_8:=Xu (B_7.out.kp k8);have C_8:=Xu (C_7.out.kp k8);clear T_7 U_7 m1_7 m2_7 V_7 m3_7 m4_7 B_7 C_7;have A_8:=Xu hA;clear hA k8;obtain ⟨g0,g1,g2,_⟩:=T_8.out.ra.cells;obtain ⟨h0,h1,h2,_⟩:=T_8.out.rb.cells)
    | (go_at_call 127;(with_reducible refine (CM2.out _ _ _ m3_8.out A_8.out).mono ?_);rintro e w9 ⟨vD,rfl,hD,k9⟩;have T_9:=Xu (T_8.out.kp k9);have U_9:=Xu (U_8.out.kp k9);have m1_9:=Xu (m1_8.out.kp k9);have m2_9:=Xu (m2_8.out.kp k9);have V_9:=Xu (V_8.out.kp k9);have m3_9:=Xu (m3_8.out.kp k9);have m4_9:=Xu (m4_8.out.kp k9);have B_9:=Xu (B_8.out.kp k9);have C_9:=Xu (C_8.out.kp k9);have A_9:=Xu (A_8.out.kp k9);clear T_8 U_8 m1_8 m2_8 V_8 m3_8 m4_8 B_8 C_8 A_8;have D_9:=Xu hD;clear hD k9;obtain ⟨g0,g1,g2,_⟩:=T_9.out.ra.cells;obtain ⟨h0,h1,h2,_⟩:=T_9.out.rb.cells)
    | (go_at_call 88;(with_reducible refine (CC.out _ _ _ C_9.out D_9.out).mono ?_);rintro e w10 ⟨rfl,k10⟩;have T_10:=Xu (T_9.out.kp k10);have U_10:=Xu (U_9.out.kp k10);have m1_10:=Xu (m1_9.out.kp k10);have m2_10:=Xu (m2_9.out.kp k10);have V_10:=Xu (V_9.out.kp k10);have m3_10:=Xu (m3_9.out.kp k10);have m4_10:=Xu (m4_9.out.kp k10);have B_10:=Xu (B_9.out.kp k10);have C_10:=Xu (C_9.out.kp k10);have A_10:=Xu (A_9.out.kp k10);have D_10:=Xu (D_9.out.kp k10);clear T_9 U_9 m1_9 m2_9 V_9 m3_9 m4_9 B_9 C_9 A_9 D_9;clear k10;obtain ⟨g0,g1,g2,_⟩:=T_10.out.ra.cells;obtain ⟨h0,h1,h2,_⟩:=T_10.out.rb.cells))
  go_wp2
  go_ret
  exact ⟨rfl,T_10.out.k⟩
theorem Q3 {w:World} {u:Value} {x:Rat} (hu:Ax w u x) {v:Value} {y:Rat} (hv:Ax w v y) {j k:Nat} (hs:RSz j x) (ht:RSz k y) (hj:j≤500000000) (hk:k≤500000000):
  Calls Tryz.prog 76 #[u,v] w fun e w'=>e= .returned (.int .i64 (Cm x y))∧Kp w w':=by
 by_cases h9:Co x=Co y
 ·have h:=Mr hu hv hs ht hj hk h9
  have he:(if decide (x.num<0)=true then-AT (x.num.natAbs*y.den) (y.num.natAbs*x.den) else AT (x.num.natAbs*y.den) (y.num.natAbs*x.den))=Cm x y:=by
   unfold Co at h9
   by_cases hx:x.num<0
   ·rw [if_pos (decide_eq_true hx),←RI]
    refine (NB (by omega) ?_).symm
    by_cases hy:y.num≤0
    ·exact hy
    ·rw [if_neg (by omega),if_pos hx,if_neg (by omega),if_neg (by omega)] at h9
     omega
   ·rw [if_neg (by rw [decide_eq_false hx];decide)]
    refine (JD (by omega) ?_).symm
    by_cases hy:0≤y.num
    ·exact hy
    ·rw [if_neg hx,if_neg (by omega: ¬y.num=0),if_pos (by omega)] at h9
     split at h9<;>omega
  rw [he] at h
  exact h
 ·exact Ms hu hv h9
end Go.Proofs.YtfineedhebhpaaaGreatDoor
