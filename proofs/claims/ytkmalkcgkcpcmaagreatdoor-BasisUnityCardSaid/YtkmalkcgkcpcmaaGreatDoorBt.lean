/-
  Several texts in one: Rq3, Rq4, Rq6, Rq8.
-/
import Derived.Test.YtkmalkcgkcpcmaaGreatDoorBr
import Derived.Test.YtkmalkcgkcpcmaaGreatDoorBs
namespace Go.Proofs.YtkmalkcgkcpcmaaGreatDoor
open Lib renaming hid→Yh
set_option maxHeartbeats 16000000
open Go.RowKit
set_option maxRecDepth 20000 in
theorem OD {w:World} {u:Value} {x:Rat} (hu:AC w u x) {v:Value} {y:Rat} (hv:AC w v y) (h0:x=0):
  Calls Tryz.prog 45 #[u,v] w fun e w'=> ∃r,e= .returned r∧AC w' r (y)∧Kp w w':=by
 obtain ⟨a1,l1,c1,a2,l2,c2,rfl,m1,m2⟩:=hu.parts
 obtain ⟨a3,l3,c3,a4,l4,c4,rfl,m3,m4⟩:=hv.parts
 have HT:=Yh (Two.new w (.bool (decide (x.num<0))) (.slice a1 l1 c1) (.slice a2 l2 c2) (.bool (decide (y.num<0))) (.slice a3 l3 c3) (.slice a4 l4 c4))
 have HU:=Yh hu
 have Hm1:=Yh m1
 have Hm2:=Yh m2
 have HV:=Yh hv
 have Hm3:=Yh m3
 have Hm4:=Yh m4
 obtain ⟨p,hp⟩: ∃b,b=decide (x.num<0):=⟨_,rfl⟩
 try rw [←hp] at HT
 try rw [←hp] at HU
 try rw [←hp] at Hm1
 try rw [←hp] at Hm2
 try rw [←hp] at HV
 try rw [←hp] at Hm3
 try rw [←hp] at Hm4
 try rw [←hp]
 have HPp:=Yh hp
 obtain ⟨q,hq⟩: ∃b,b=decide (y.num<0):=⟨_,rfl⟩
 try rw [←hq] at HT
 try rw [←hq] at HU
 try rw [←hq] at Hm1
 try rw [←hq] at Hm2
 try rw [←hq] at HV
 try rw [←hq] at Hm3
 try rw [←hq] at Hm4
 try rw [←hq]
 have HPq:=Yh hq
 clear hu m1 m2 hp hv m3 m4 hq
 obtain rfl:=(Cq Hm1.out).2 (by rw [h0];rfl)
 clear h0
 go_enter Tryz.func45,Tryz.ntmps45
 have KN:=HT.out.k
 have U_e:=Yh (HU.out.kp KN)
 have m1_e:=Yh (Hm1.out.kp KN)
 have m2_e:=Yh (Hm2.out.kp KN)
 have V_e:=Yh (HV.out.kp KN)
 have m3_e:=Yh (Hm3.out.kp KN)
 have m4_e:=Yh (Hm4.out.kp KN)
 clear KN
 obtain ⟨g0,g1,g2,_⟩:=HT.out.ra.cells
 obtain ⟨h0,h1,h2,_⟩:=HT.out.rb.cells
 go_wp2
 exact bodyPost_ret (v:= .agg #[.bool q,.slice a3 l3 c3,.slice a4 l4 c4]) (by simp [results,Tryz.results45,go_sem]) rfl ⟨_,rfl,HV.out.kp (((Kp.alloc w _).tr (Kp.alloc _ _)).tr (Kp.alloc _ _)),(((Kp.alloc w _).tr (Kp.alloc _ _)).tr (Kp.alloc _ _))⟩
set_option maxRecDepth 20000 in
theorem ML {w:World} {u:Value} {x:Rat} (hu:AC w u x) {v:Value} {y:Rat} (hv:AC w v y) (h0:y=0) (h1:x≠0):
  Calls Tryz.prog 45 #[u,v] w fun e w'=> ∃r,e= .returned r∧AC w' r (x)∧Kp w w':=by
 obtain ⟨a1,l1,c1,a2,l2,c2,rfl,m1,m2⟩:=hu.parts
 obtain ⟨a3,l3,c3,a4,l4,c4,rfl,m3,m4⟩:=hv.parts
 have HT:=Yh (Two.new w (.bool (decide (x.num<0))) (.slice a1 l1 c1) (.slice a2 l2 c2) (.bool (decide (y.num<0))) (.slice a3 l3 c3) (.slice a4 l4 c4))
 have HU:=Yh hu
 have Hm1:=Yh m1
 have Hm2:=Yh m2
 have HV:=Yh hv
 have Hm3:=Yh m3
 have Hm4:=Yh m4
 obtain ⟨p,hp⟩: ∃b,b=decide (x.num<0):=⟨_,rfl⟩
 try rw [←hp] at HT
 try rw [←hp] at HU
 try rw [←hp] at Hm1
 try rw [←hp] at Hm2
 try rw [←hp] at HV
 try rw [←hp] at Hm3
 try rw [←hp] at Hm4
 try rw [←hp]
 have HPp:=Yh hp
 obtain ⟨q,hq⟩: ∃b,b=decide (y.num<0):=⟨_,rfl⟩
 try rw [←hq] at HT
 try rw [←hq] at HU
 try rw [←hq] at Hm1
 try rw [←hq] at Hm2
 try rw [←hq] at HV
 try rw [←hq] at Hm3
 try rw [←hq] at Hm4
 try rw [←hq]
 have HPq:=Yh hq
 clear hu m1 m2 hp hv m3 m4 hq
 obtain rfl:=(Cq Hm3.out).2 (by rw [h0];rfl)
 have hl1:0<l1:=by have:=Cq Hm1.out;have:x.num.natAbs≠0:=fun e=>h1 (Rat.num_eq_zero.1 (Int.natAbs_eq_zero.1 e));omega
 have hl1z:((l1:Int)==0)=false:=beq_eq_false_iff_ne.2 (by omega)
 clear h0 h1
 go_enter Tryz.func45,Tryz.ntmps45
 have KN:=HT.out.k
 have U_e:=Yh (HU.out.kp KN)
 have m1_e:=Yh (Hm1.out.kp KN)
 have m2_e:=Yh (Hm2.out.kp KN)
 have V_e:=Yh (HV.out.kp KN)
 have m3_e:=Yh (Hm3.out.kp KN)
 have m4_e:=Yh (Hm4.out.kp KN)
 clear KN
 obtain ⟨g0,g1,g2,_⟩:=HT.out.ra.cells
 obtain ⟨h0,h1,h2,_⟩:=HT.out.rb.cells
 go_wp2
 exact bodyPost_ret (v:= .agg #[.bool p,.slice a1 l1 c1,.slice a2 l2 c2]) (by simp [results,Tryz.results45,go_sem]) rfl ⟨_,rfl,HU.out.kp (((Kp.alloc w _).tr (Kp.alloc _ _)).tr (Kp.alloc _ _)),(((Kp.alloc w _).tr (Kp.alloc _ _)).tr (Kp.alloc _ _))⟩
set_option maxRecDepth 20000 in
theorem OA {w:World} {u:Value} {x:Rat} (hu:AC w u x) {v:Value} {y:Rat} (hv:AC w v y) {j k:Nat} (hs:RSz j x) (ht:RSz k y) (hj:j≤500000000) (hk:k≤500000000) (h0:x≠0) (h1:y≠0) (hs9:decide (x.num<0)=decide (y.num<0)):
  Calls Tryz.prog 45 #[u,v] w fun e w'=> ∃r,e= .returned r∧AC w' r (x+y)∧Kp w w':=by
 have hres:AD (decide (x.num<0)) (x.num.natAbs*y.den+y.num.natAbs*x.den) (x.den*y.den)=x+y:=by
  rw [←I7 _ x.den_nz y.den_nz,BL,hs9,BL]
 rw [←hres]
 clear hres
 have hd0:x.den*y.den≠0:=Nat.mul_ne_zero x.den_nz y.den_nz
 have SA:Sz (j+k) (x.num.natAbs*y.den):=hs.1.mul ht.2
 have SB:Sz (k+j) (y.num.natAbs*x.den):=ht.1.mul hs.2
 have SD:Sz (j+k) (x.den*y.den):=hs.2.mul ht.2
 have SZ:Sz (j+k+1) _:=SA.plus (by rw [Nat.add_comm j k];exact SB)
 obtain ⟨a1,l1,c1,a2,l2,c2,rfl,m1,m2⟩:=hu.parts
 obtain ⟨a3,l3,c3,a4,l4,c4,rfl,m3,m4⟩:=hv.parts
 have HT:=Yh (Two.new w (.bool (decide (x.num<0))) (.slice a1 l1 c1) (.slice a2 l2 c2) (.bool (decide (y.num<0))) (.slice a3 l3 c3) (.slice a4 l4 c4))
 have HU:=Yh hu
 have Hm1:=Yh m1
 have Hm2:=Yh m2
 have HV:=Yh hv
 have Hm3:=Yh m3
 have Hm4:=Yh m4
 have CDA:=Yh (fun w' (a:M w' (.slice a1 l1 c1) x.num.natAbs) (b:M w' (.slice a2 l2 c2) (A7 x))=>FA (s:=decide (x.num<0)) a b)
 have CDB:=Yh (fun w' (a:M w' (.slice a3 l3 c3) y.num.natAbs) (b:M w' (.slice a4 l4 c4) (A7 y))=>FA (s:=decide (y.num<0)) a b)
 have CM1:=Yh (fun w' va vb (a:M w' va (x.num.natAbs)) (b:M w' vb (y.den))=>CI a b hs.1 ht.2 (by omega) (by omega))
 have CM2:=Yh (fun w' va vb (a:M w' va (y.num.natAbs)) (b:M w' vb (x.den))=>CI a b ht.1 hs.2 (by omega) (by omega))
 have CM3:=Yh (fun w' va vb (a:M w' va (x.den)) (b:M w' vb (y.den))=>CI a b hs.2 ht.2 (by omega) (by omega))
 have CZ:=Yh (fun w' va vb (a:M w' va (x.num.natAbs*y.den)) (b:M w' vb (y.num.natAbs*x.den))=>Ta a b SA SB (by omega) (by omega))
 have CR:=Yh (fun w' s va vb (a:M w' va (x.num.natAbs*y.den+y.num.natAbs*x.den)) (b:M w' vb (x.den*y.den))=>Fz (neg:=s) a b SZ SD (by omega) (by omega) hd0)
 obtain ⟨p,hp⟩: ∃b,b=decide (x.num<0):=⟨_,rfl⟩
 try rw [←hp] at HT
 try rw [←hp] at HU
 try rw [←hp] at Hm1
 try rw [←hp] at Hm2
 try rw [←hp] at HV
 try rw [←hp] at Hm3
 try rw [←hp] at Hm4
 try rw [←hp] at CDA
 try rw [←hp] at CDB
 try rw [←hp] at CM1
 try rw [←hp] at CM2
 try rw [←hp] at CM3
 try rw [←hp] at CZ
 try rw [←hp] at CR
 try rw [←hp]
 have HPp:=Yh hp
 obtain ⟨q,hq⟩: ∃b,b=decide (y.num<0):=⟨_,rfl⟩
 try rw [←hq] at HT
 try rw [←hq] at HU
 try rw [←hq] at Hm1
 try rw [←hq] at Hm2
 try rw [←hq] at HV
 try rw [←hq] at Hm3
 try rw [←hq] at Hm4
 try rw [←hq] at CDA
 try rw [←hq] at CDB
 try rw [←hq] at CM1
 try rw [←hq] at CM2
 try rw [←hq] at CM3
 try rw [←hq] at CZ
 try rw [←hq] at CR
 try rw [←hq]
 have HPq:=Yh hq
 clear hu m1 m2 hp hv m3 m4 hq
 have hl1:0<l1:=by have:=Cq Hm1.out;have:x.num.natAbs≠0:=fun e=>h0 (Rat.num_eq_zero.1 (Int.natAbs_eq_zero.1 e));omega
 have hl1z:((l1:Int)==0)=false:=beq_eq_false_iff_ne.2 (by omega)
 have hl3:0<l3:=by have:=Cq Hm3.out;have:y.num.natAbs≠0:=fun e=>h1 (Rat.num_eq_zero.1 (Int.natAbs_eq_zero.1 e));omega
 have hl3z:((l3:Int)==0)=false:=beq_eq_false_iff_ne.2 (by omega)
 have hpq:p=q:=by rw [HPp.out,HPq.out,hs9]
 subst hpq
 clear SA SB SD SZ hd0 h0 h1 hs9 hs ht hj hk
 go_enter Tryz.func45,Tryz.ntmps45
 have KN:=HT.out.k
 have U_e:=Yh (HU.out.kp KN)
 have m1_e:=Yh (Hm1.out.kp KN)
 have m2_e:=Yh (Hm2.out.kp KN)
 have V_e:=Yh (HV.out.kp KN)
 have m3_e:=Yh (Hm3.out.kp KN)
 have m4_e:=Yh (Hm4.out.kp KN)
 clear KN
 obtain ⟨g0,g1,g2,_⟩:=HT.out.ra.cells
 obtain ⟨h0,h1,h2,_⟩:=HT.out.rb.cells
 go_upto_region 5 with fail
 have T_2:=Yh (HT.out.kp (Below.refl _ _).drew)
 have U_2:=Yh (U_e.out.kp (Below.refl _ _).drew)
 have m1_2:=Yh (m1_e.out.kp (Below.refl _ _).drew)
 have m2_2:=Yh (m2_e.out.kp (Below.refl _ _).drew)
 have V_2:=Yh (V_e.out.kp (Below.refl _ _).drew)
 have m3_2:=Yh (m3_e.out.kp (Below.refl _ _).drew)
 have m4_2:=Yh (m4_e.out.kp (Below.refl _ _).drew)
 clear HT U_e m1_e m2_e V_e m3_e m4_e
 go_region_held3 (fun w'=>w'.cell? ⟨w.heap.size,0,none⟩=some (.bool p)∧w'.cell? ⟨w.heap.size,1,none⟩=some (.slice a1 l1 c1)∧w'.cell? ⟨w.heap.size,2,none⟩=some (.slice a2 l2 c2)∧w'.cell? ⟨w.heap.size+1,0,none⟩=some (.bool p)∧w'.cell? ⟨w.heap.size+1,1,none⟩=some (.slice a3 l3 c3)∧w'.cell? ⟨w.heap.size+1,2,none⟩=some (.slice a4 l4 c4))
  (first|(refine ⟨?_,?_,?_,?_,?_,?_⟩<;>assumption)|go_keep)
  (first
   | (go_at_call 82;(with_reducible refine (CDB.out _ m3_2.out m4_2.out).mono ?_);rintro e w3 ⟨vB,rfl,hB,k3⟩;have T_3:=Yh (T_2.out.kp k3);have U_3:=Yh (U_2.out.kp k3);have m1_3:=Yh (m1_2.out.kp k3);have m2_3:=Yh (m2_2.out.kp k3);have V_3:=Yh (V_2.out.kp k3);have m3_3:=Yh (m3_2.out.kp k3);have m4_3:=Yh (m4_2.out.kp k3);clear T_2 U_2 m1_2 m2_2 V_2 m3_2 m4_2;have B_3:=Yh hB;clear hB k3;obtain ⟨g0,g1,g2,_⟩:=T_3.out.ra.cells;obtain ⟨h0,h1,h2,_⟩:=T_3.out.rb.cells)
   | (go_at_call 81;(with_reducible refine (CM1.out _ _ _ m1_3.out B_3.out).mono ?_);rintro e w4 ⟨vC,rfl,hC,k4⟩;have T_4:=Yh (T_3.out.kp k4);have U_4:=Yh (U_3.out.kp k4);have m1_4:=Yh (m1_3.out.kp k4);have m2_4:=Yh (m2_3.out.kp k4);have V_4:=Yh (V_3.out.kp k4);have m3_4:=Yh (m3_3.out.kp k4);have m4_4:=Yh (m4_3.out.kp k4);have B_4:=Yh (B_3.out.kp k4);clear T_3 U_3 m1_3 m2_3 V_3 m3_3 m4_3 B_3;have C_4:=Yh hC;clear hC k4;obtain ⟨g0,g1,g2,_⟩:=T_4.out.ra.cells;obtain ⟨h0,h1,h2,_⟩:=T_4.out.rb.cells)
   | (go_at_call 82;(with_reducible refine (CDA.out _ m1_4.out m2_4.out).mono ?_);rintro e w5 ⟨vA,rfl,hA,k5⟩;have T_5:=Yh (T_4.out.kp k5);have U_5:=Yh (U_4.out.kp k5);have m1_5:=Yh (m1_4.out.kp k5);have m2_5:=Yh (m2_4.out.kp k5);have V_5:=Yh (V_4.out.kp k5);have m3_5:=Yh (m3_4.out.kp k5);have m4_5:=Yh (m4_4.out.kp k5);have B_5:=Yh (B_4.out.kp k5);have C_5:=Yh (C_4.out.kp k5);clear T_4 U_4 m1_4 m2_4 V_4 m3_4 m4_4 B_4 C_4;have A_5:=Yh hA;clear hA k5;obtain ⟨g0,g1,g2,_⟩:=T_5.out.ra.cells;obtain ⟨h0,h1,h2,_⟩:=T_5.out.rb.cells)
   | (go_at_call 81;(with_reducible refine (CM2.out _ _ _ m3_5.out A_5.out).mono ?_);rintro e w6 ⟨vD,rfl,hD,k6⟩;have T_6:=Yh (T_5.out.kp k6);have U_6:=Yh (U_5.out.kp k6);have m1_6:=Yh (m1_5.out.kp k6);have m2_6:=Yh (m2_5.out.kp k6);have V_6:=Yh (V_5.out.kp k6);have m3_6:=Yh (m3_5.out.kp k6);have m4_6:=Yh (m4_5.out.kp k6);have B_6:=Yh (B_5.out.kp k6);have C_6:=Yh (C_5.out.kp k6);have A_6:=Yh (A_5.out.kp k6);clear T_5 U_5 m1_5 m2_5 V_5 m3_5 m4_5 B_5 C_5 A_5;have D_6:=Yh hD;clear hD k6;obtain ⟨g0,g1,g2,_⟩:=T_6.out.ra.cells;obtain ⟨h0,h1,h2,_⟩:=T_6.out.rb.cells))
 go_upto_region 6 with fail
 have T_7:=Yh (T_6.out.kp (Below.refl _ _).drew)
 have U_7:=Yh (U_6.out.kp (Below.refl _ _).drew)
 have m1_7:=Yh (m1_6.out.kp (Below.refl _ _).drew)
 have m2_7:=Yh (m2_6.out.kp (Below.refl _ _).drew)
 have V_7:=Yh (V_6.out.kp (Below.refl _ _).drew)
 have m3_7:=Yh (m3_6.out.kp (Below.refl _ _).drew)
 have m4_7:=Yh (m4_6.out.kp (Below.refl _ _).drew)
 have B_7:=Yh (B_6.out.kp (Below.refl _ _).drew)
 have C_7:=Yh (C_6.out.kp (Below.refl _ _).drew)
 have A_7:=Yh (A_6.out.kp (Below.refl _ _).drew)
 have D_7:=Yh (D_6.out.kp (Below.refl _ _).drew)
 clear T_6 U_6 m1_6 m2_6 V_6 m3_6 m4_6 B_6 C_6 A_6 D_6
 go_region_held3 (fun w'=>w'.cell? ⟨w.heap.size,0,none⟩=some (.bool p)∧w'.cell? ⟨w.heap.size,1,none⟩=some (.slice a1 l1 c1)∧w'.cell? ⟨w.heap.size,2,none⟩=some (.slice a2 l2 c2)∧w'.cell? ⟨w.heap.size+1,0,none⟩=some (.bool p)∧w'.cell? ⟨w.heap.size+1,1,none⟩=some (.slice a3 l3 c3)∧w'.cell? ⟨w.heap.size+1,2,none⟩=some (.slice a4 l4 c4))
  (first|(refine ⟨?_,?_,?_,?_,?_,?_⟩<;>assumption)|go_keep)
  (first
   | (go_at_call 82;(with_reducible refine (CDA.out _ m1_7.out m2_7.out).mono ?_);rintro e w8 ⟨vA2,rfl,hA2,k8⟩;have T_8:=Yh (T_7.out.kp k8);have U_8:=Yh (U_7.out.kp k8);have m1_8:=Yh (m1_7.out.kp k8);have m2_8:=Yh (m2_7.out.kp k8);have V_8:=Yh (V_7.out.kp k8);have m3_8:=Yh (m3_7.out.kp k8);have m4_8:=Yh (m4_7.out.kp k8);have B_8:=Yh (B_7.out.kp k8);have C_8:=Yh (C_7.out.kp k8);have A_8:=Yh (A_7.out.kp k8);have D_8:=Yh (D_7.out.kp k8);clear T_7 U_7 m1_7 m2_7 V_7 m3_7 m4_7 B_7 C_7 A_7 D_7;have A2_8:=Yh hA2;clear hA2 k8;obtain ⟨g0,g1,g2,_⟩:=T_8.out.ra.cells;obtain ⟨h0,h1,h2,_⟩:=T_8.out.rb.cells)
   | (go_at_call 82;(with_reducible refine (CDB.out _ m3_8.out m4_8.out).mono ?_);rintro e w9 ⟨vB2,rfl,hB2,k9⟩;have T_9:=Yh (T_8.out.kp k9);have U_9:=Yh (U_8.out.kp k9);have m1_9:=Yh (m1_8.out.kp k9);have m2_9:=Yh (m2_8.out.kp k9);have V_9:=Yh (V_8.out.kp k9);have m3_9:=Yh (m3_8.out.kp k9);have m4_9:=Yh (m4_8.out.kp k9);have B_9:=Yh (B_8.out.kp k9);have C_9:=Yh (C_8.out.kp k9);have A_9:=Yh (A_8.out.kp k9);have D_9:=Yh (D_8.out.kp k9);have A2_9:=Yh (A2_8.out.kp k9);clear T_8 U_8 m1_8 m2_8 V_8 m3_8 m4_8 B_8 C_8 A_8 D_8 A2_8;have B2_9:=Yh hB2;clear hB2 k9;obtain ⟨g0,g1,g2,_⟩:=T_9.out.ra.cells;obtain ⟨h0,h1,h2,_⟩:=T_9.out.rb.cells)
   | (go_at_call 81;(with_reducible refine (CM3.out _ _ _ A2_9.out B2_9.out).mono ?_);rintro e w10 ⟨vE,rfl,hE,k10⟩;have T_10:=Yh (T_9.out.kp k10);have U_10:=Yh (U_9.out.kp k10);have m1_10:=Yh (m1_9.out.kp k10);have m2_10:=Yh (m2_9.out.kp k10);have V_10:=Yh (V_9.out.kp k10);have m3_10:=Yh (m3_9.out.kp k10);have m4_10:=Yh (m4_9.out.kp k10);have B_10:=Yh (B_9.out.kp k10);have C_10:=Yh (C_9.out.kp k10);have A_10:=Yh (A_9.out.kp k10);have D_10:=Yh (D_9.out.kp k10);have A2_10:=Yh (A2_9.out.kp k10);have B2_10:=Yh (B2_9.out.kp k10);clear T_9 U_9 m1_9 m2_9 V_9 m3_9 m4_9 B_9 C_9 A_9 D_9 A2_9 B2_9;have E_10:=Yh hE;clear hE k10;obtain ⟨g0,g1,g2,_⟩:=T_10.out.ra.cells;obtain ⟨h0,h1,h2,_⟩:=T_10.out.rb.cells))
 go_upto_region 8 with fail
 have n1: ¬(w.heap.size+1+1=w.heap.size):=by omega
 have n2: ¬(w.heap.size=w.heap.size+1+1):=by omega
 have T_11:=Yh (T_10.out.kp (Below.refl _ _).drew)
 have U_11:=Yh (U_10.out.kp (Below.refl _ _).drew)
 have m1_11:=Yh (m1_10.out.kp (Below.refl _ _).drew)
 have m2_11:=Yh (m2_10.out.kp (Below.refl _ _).drew)
 have V_11:=Yh (V_10.out.kp (Below.refl _ _).drew)
 have m3_11:=Yh (m3_10.out.kp (Below.refl _ _).drew)
 have m4_11:=Yh (m4_10.out.kp (Below.refl _ _).drew)
 have B_11:=Yh (B_10.out.kp (Below.refl _ _).drew)
 have C_11:=Yh (C_10.out.kp (Below.refl _ _).drew)
 have A_11:=Yh (A_10.out.kp (Below.refl _ _).drew)
 have D_11:=Yh (D_10.out.kp (Below.refl _ _).drew)
 have A2_11:=Yh (A2_10.out.kp (Below.refl _ _).drew)
 have B2_11:=Yh (B2_10.out.kp (Below.refl _ _).drew)
 have E_11:=Yh (E_10.out.kp (Below.refl _ _).drew)
 clear T_10 U_10 m1_10 m2_10 V_10 m3_10 m4_10 B_10 C_10 A_10 D_10 A2_10 B2_10 E_10
 go_region_held3 (fun w'=>w'.cell? ⟨w.heap.size,0,none⟩=some (.bool p)∧w'.cell? ⟨w.heap.size,1,none⟩=some (.slice a1 l1 c1)∧w'.cell? ⟨w.heap.size,2,none⟩=some (.slice a2 l2 c2)∧w'.cell? ⟨w.heap.size+1,0,none⟩=some (.bool p)∧w'.cell? ⟨w.heap.size+1,1,none⟩=some (.slice a3 l3 c3)∧w'.cell? ⟨w.heap.size+1,2,none⟩=some (.slice a4 l4 c4))
  (first|(refine ⟨?_,?_,?_,?_,?_,?_⟩<;>assumption)|go_keep)
  (first
   | (go_at_call 93;(with_reducible refine (CZ.out _ _ _ C_11.out D_11.out).mono ?_);rintro e w12 ⟨vG,rfl,hG,k12⟩;have T_12:=Yh (T_11.out.kp k12);have U_12:=Yh (U_11.out.kp k12);have m1_12:=Yh (m1_11.out.kp k12);have m2_12:=Yh (m2_11.out.kp k12);have V_12:=Yh (V_11.out.kp k12);have m3_12:=Yh (m3_11.out.kp k12);have m4_12:=Yh (m4_11.out.kp k12);have B_12:=Yh (B_11.out.kp k12);have C_12:=Yh (C_11.out.kp k12);have A_12:=Yh (A_11.out.kp k12);have D_12:=Yh (D_11.out.kp k12);have A2_12:=Yh (A2_11.out.kp k12);have B2_12:=Yh (B2_11.out.kp k12);have E_12:=Yh (E_11.out.kp k12);clear T_11 U_11 m1_11 m2_11 V_11 m3_11 m4_11 B_11 C_11 A_11 D_11 A2_11 B2_11 E_11;have G_12:=Yh hG;clear hG k12;obtain ⟨g0,g1,g2,_⟩:=T_12.out.ra.cells;obtain ⟨h0,h1,h2,_⟩:=T_12.out.rb.cells)
   | (go_at_call 92;(with_reducible refine (CR.out _ _ _ _ G_12.out E_12.out).mono ?_);rintro e w13 ⟨vr,rfl,hvr,k13⟩;have T_13:=Yh (T_12.out.kp k13);have U_13:=Yh (U_12.out.kp k13);have m1_13:=Yh (m1_12.out.kp k13);have m2_13:=Yh (m2_12.out.kp k13);have V_13:=Yh (V_12.out.kp k13);have m3_13:=Yh (m3_12.out.kp k13);have m4_13:=Yh (m4_12.out.kp k13);have B_13:=Yh (B_12.out.kp k13);have C_13:=Yh (C_12.out.kp k13);have A_13:=Yh (A_12.out.kp k13);have D_13:=Yh (D_12.out.kp k13);have A2_13:=Yh (A2_12.out.kp k13);have B2_13:=Yh (B2_12.out.kp k13);have E_13:=Yh (E_12.out.kp k13);have G_13:=Yh (G_12.out.kp k13);clear T_12 U_12 m1_12 m2_12 V_12 m3_12 m4_12 B_12 C_12 A_12 D_12 A2_12 B2_12 E_12 G_12;obtain ⟨sgn,q1,r1,s1,q2,r2,s2,rfl⟩:=hvr.lit;obtain ⟨⟨e0,e1,e2,f0,f1,f2⟩,HPP,HV,HKF⟩:=BQ T_13.out.rr T_13.out.k (Below.refl _ _) hvr (by omega);clear hvr;clear k13;obtain ⟨g0,g1,g2,_⟩:=T_13.out.ra.cells;obtain ⟨h0,h1,h2,_⟩:=T_13.out.rb.cells))
 obtain ⟨k0,k1,k2⟩:=HPP.out
 go_wp2
 exact bodyPost_ret (v:= .agg #[.bool sgn,.slice q1 r1 s1,.slice q2 r2 s2]) (by simp [results,Tryz.results45,go_sem,k0,k1,k2]) rfl ⟨_,rfl,HV.out,HKF.out⟩
set_option maxRecDepth 20000 in
theorem OC {w:World} {u:Value} {x:Rat} (hu:AC w u x) {v:Value} {y:Rat} (hv:AC w v y) {j k:Nat} (hs:RSz j x) (ht:RSz k y) (hj:j≤500000000) (hk:k≤500000000) (h0:x≠0) (h1:y≠0) (hs9:decide (y.num<0)=!decide (x.num<0)) (hlt:x.num.natAbs*y.den<y.num.natAbs*x.den):
  Calls Tryz.prog 45 #[u,v] w fun e w'=> ∃r,e= .returned r∧AC w' r (x+y)∧Kp w w':=by
 have hres:AD (decide (y.num<0)) (y.num.natAbs*x.den-x.num.natAbs*y.den) (x.den*y.den)=x+y:=by
  have h:=FD (decide (y.num<0)) (n:=y.num.natAbs) (m:=x.num.natAbs) y.den_nz x.den_nz (Nat.le_of_lt hlt)
  rw [Nat.mul_comm x.den,←h,BL,show (!decide (y.num<0))=decide (x.num<0) by rw [hs9,Bool.not_not],BL,Rat.add_comm]
 rw [←hres]
 clear hres
 have hd0:x.den*y.den≠0:=Nat.mul_ne_zero x.den_nz y.den_nz
 have SA:Sz (j+k) (x.num.natAbs*y.den):=hs.1.mul ht.2
 have SB:Sz (k+j) (y.num.natAbs*x.den):=ht.1.mul hs.2
 have SD:Sz (j+k) (x.den*y.den):=hs.2.mul ht.2
 have SZ:Sz (j+k) (y.num.natAbs*x.den-x.num.natAbs*y.den):=(by rw [Nat.add_comm k j] at SB;exact SB.le (Nat.sub_le _ _))
 obtain ⟨a1,l1,c1,a2,l2,c2,rfl,m1,m2⟩:=hu.parts
 obtain ⟨a3,l3,c3,a4,l4,c4,rfl,m3,m4⟩:=hv.parts
 have HT:=Yh (Two.new w (.bool (decide (x.num<0))) (.slice a1 l1 c1) (.slice a2 l2 c2) (.bool (decide (y.num<0))) (.slice a3 l3 c3) (.slice a4 l4 c4))
 have HU:=Yh hu
 have Hm1:=Yh m1
 have Hm2:=Yh m2
 have HV:=Yh hv
 have Hm3:=Yh m3
 have Hm4:=Yh m4
 have CDA:=Yh (fun w' (a:M w' (.slice a1 l1 c1) x.num.natAbs) (b:M w' (.slice a2 l2 c2) (A7 x))=>FA (s:=decide (x.num<0)) a b)
 have CDB:=Yh (fun w' (a:M w' (.slice a3 l3 c3) y.num.natAbs) (b:M w' (.slice a4 l4 c4) (A7 y))=>FA (s:=decide (y.num<0)) a b)
 have CM1:=Yh (fun w' va vb (a:M w' va (x.num.natAbs)) (b:M w' vb (y.den))=>CI a b hs.1 ht.2 (by omega) (by omega))
 have CM2:=Yh (fun w' va vb (a:M w' va (y.num.natAbs)) (b:M w' vb (x.den))=>CI a b ht.1 hs.2 (by omega) (by omega))
 have CM3:=Yh (fun w' va vb (a:M w' va (x.den)) (b:M w' vb (y.den))=>CI a b hs.2 ht.2 (by omega) (by omega))
 have CC:=Yh (fun w' va vb (a:M w' va (x.num.natAbs*y.den)) (b:M w' vb (y.num.natAbs*x.den))=>CJ va vb _ _ w' a b)
 have CZ:=Yh (fun w' va vb (a:M w' va (y.num.natAbs*x.den)) (b:M w' vb (x.num.natAbs*y.den))=>MJ va vb _ _ w' a b (by unfold Sz at SB;omega) (Nat.le_of_lt hlt))
 have CR:=Yh (fun w' s va vb (a:M w' va (y.num.natAbs*x.den-x.num.natAbs*y.den)) (b:M w' vb (x.den*y.den))=>Fz (neg:=s) a b SZ SD (by omega) (by omega) hd0)
 obtain ⟨p,hp⟩: ∃b,b=decide (x.num<0):=⟨_,rfl⟩
 try rw [←hp] at HT
 try rw [←hp] at HU
 try rw [←hp] at Hm1
 try rw [←hp] at Hm2
 try rw [←hp] at HV
 try rw [←hp] at Hm3
 try rw [←hp] at Hm4
 try rw [←hp] at CDA
 try rw [←hp] at CDB
 try rw [←hp] at CM1
 try rw [←hp] at CM2
 try rw [←hp] at CM3
 try rw [←hp] at CC
 try rw [←hp] at CZ
 try rw [←hp] at CR
 try rw [←hp]
 have HPp:=Yh hp
 obtain ⟨q,hq⟩: ∃b,b=decide (y.num<0):=⟨_,rfl⟩
 try rw [←hq] at HT
 try rw [←hq] at HU
 try rw [←hq] at Hm1
 try rw [←hq] at Hm2
 try rw [←hq] at HV
 try rw [←hq] at Hm3
 try rw [←hq] at Hm4
 try rw [←hq] at CDA
 try rw [←hq] at CDB
 try rw [←hq] at CM1
 try rw [←hq] at CM2
 try rw [←hq] at CM3
 try rw [←hq] at CC
 try rw [←hq] at CZ
 try rw [←hq] at CR
 try rw [←hq]
 have HPq:=Yh hq
 clear hu m1 m2 hp hv m3 m4 hq
 have hl1:0<l1:=by have:=Cq Hm1.out;have:x.num.natAbs≠0:=fun e=>h0 (Rat.num_eq_zero.1 (Int.natAbs_eq_zero.1 e));omega
 have hl1z:((l1:Int)==0)=false:=beq_eq_false_iff_ne.2 (by omega)
 have hl3:0<l3:=by have:=Cq Hm3.out;have:y.num.natAbs≠0:=fun e=>h1 (Rat.num_eq_zero.1 (Int.natAbs_eq_zero.1 e));omega
 have hl3z:((l3:Int)==0)=false:=beq_eq_false_iff_ne.2 (by omega)
 have hpq:q=!p:=by rw [HPp.out,HPq.out,hs9]
 subst hpq
 have hpn:(p==!p)=false:=by cases p<;>rfl
 have hpn2:(p=!p)=False:=by cases p<;>simp
 obtain ⟨cc,hcc⟩: ∃c,c=Bx (x.num.natAbs*y.den) (y.num.natAbs*x.den):=⟨_,rfl⟩
 rw [←hcc] at CC
 have hcd:decide (cc<0)=true:=by rw [hcc];exact decide_eq_true (by rw [Ce hlt];decide)
 clear hcc hlt
 clear SA SB SD SZ hd0 h0 h1 hs9 hs ht hj hk
 go_enter Tryz.func45,Tryz.ntmps45
 have KN:=HT.out.k
 have U_e:=Yh (HU.out.kp KN)
 have m1_e:=Yh (Hm1.out.kp KN)
 have m2_e:=Yh (Hm2.out.kp KN)
 have V_e:=Yh (HV.out.kp KN)
 have m3_e:=Yh (Hm3.out.kp KN)
 have m4_e:=Yh (Hm4.out.kp KN)
 clear KN
 obtain ⟨g0,g1,g2,_⟩:=HT.out.ra.cells
 obtain ⟨h0,h1,h2,_⟩:=HT.out.rb.cells
 go_upto_region 5 with fail
 have T_2:=Yh (HT.out.kp (Below.refl _ _).drew)
 have U_2:=Yh (U_e.out.kp (Below.refl _ _).drew)
 have m1_2:=Yh (m1_e.out.kp (Below.refl _ _).drew)
 have m2_2:=Yh (m2_e.out.kp (Below.refl _ _).drew)
 have V_2:=Yh (V_e.out.kp (Below.refl _ _).drew)
 have m3_2:=Yh (m3_e.out.kp (Below.refl _ _).drew)
 have m4_2:=Yh (m4_e.out.kp (Below.refl _ _).drew)
 clear HT U_e m1_e m2_e V_e m3_e m4_e
 go_region_held3 (fun w'=>w'.cell? ⟨w.heap.size,0,none⟩=some (.bool p)∧w'.cell? ⟨w.heap.size,1,none⟩=some (.slice a1 l1 c1)∧w'.cell? ⟨w.heap.size,2,none⟩=some (.slice a2 l2 c2)∧w'.cell? ⟨w.heap.size+1,0,none⟩=some (.bool (!p))∧w'.cell? ⟨w.heap.size+1,1,none⟩=some (.slice a3 l3 c3)∧w'.cell? ⟨w.heap.size+1,2,none⟩=some (.slice a4 l4 c4))
  (first|(refine ⟨?_,?_,?_,?_,?_,?_⟩<;>assumption)|go_keep)
  (first
   | (go_at_call 82;(with_reducible refine (CDB.out _ m3_2.out m4_2.out).mono ?_);rintro e w3 ⟨vB,rfl,hB,k3⟩;have T_3:=Yh (T_2.out.kp k3);have U_3:=Yh (U_2.out.kp k3);have m1_3:=Yh (m1_2.out.kp k3);have m2_3:=Yh (m2_2.out.kp k3);have V_3:=Yh (V_2.out.kp k3);have m3_3:=Yh (m3_2.out.kp k3);have m4_3:=Yh (m4_2.out.kp k3);clear T_2 U_2 m1_2 m2_2 V_2 m3_2 m4_2;have B_3:=Yh hB;clear hB k3;obtain ⟨g0,g1,g2,_⟩:=T_3.out.ra.cells;obtain ⟨h0,h1,h2,_⟩:=T_3.out.rb.cells)
   | (go_at_call 81;(with_reducible refine (CM1.out _ _ _ m1_3.out B_3.out).mono ?_);rintro e w4 ⟨vC,rfl,hC,k4⟩;have T_4:=Yh (T_3.out.kp k4);have U_4:=Yh (U_3.out.kp k4);have m1_4:=Yh (m1_3.out.kp k4);have m2_4:=Yh (m2_3.out.kp k4);have V_4:=Yh (V_3.out.kp k4);have m3_4:=Yh (m3_3.out.kp k4);have m4_4:=Yh (m4_3.out.kp k4);have B_4:=Yh (B_3.out.kp k4);clear T_3 U_3 m1_3 m2_3 V_3 m3_3 m4_3 B_3;have C_4:=Yh hC;clear hC k4;obtain ⟨g0,g1,g2,_⟩:=T_4.out.ra.cells;obtain ⟨h0,h1,h2,_⟩:=T_4.out.rb.cells)
   | (go_at_call 82;(with_reducible refine (CDA.out _ m1_4.out m2_4.out).mono ?_);rintro e w5 ⟨vA,rfl,hA,k5⟩;have T_5:=Yh (T_4.out.kp k5);have U_5:=Yh (U_4.out.kp k5);have m1_5:=Yh (m1_4.out.kp k5);have m2_5:=Yh (m2_4.out.kp k5);have V_5:=Yh (V_4.out.kp k5);have m3_5:=Yh (m3_4.out.kp k5);have m4_5:=Yh (m4_4.out.kp k5);have B_5:=Yh (B_4.out.kp k5);have C_5:=Yh (C_4.out.kp k5);clear T_4 U_4 m1_4 m2_4 V_4 m3_4 m4_4 B_4 C_4;have A_5:=Yh hA;clear hA k5;obtain ⟨g0,g1,g2,_⟩:=T_5.out.ra.cells;obtain ⟨h0,h1,h2,_⟩:=T_5.out.rb.cells)
   | (go_at_call 81;(with_reducible refine (CM2.out _ _ _ m3_5.out A_5.out).mono ?_);rintro e w6 ⟨vD,rfl,hD,k6⟩;have T_6:=Yh (T_5.out.kp k6);have U_6:=Yh (U_5.out.kp k6);have m1_6:=Yh (m1_5.out.kp k6);have m2_6:=Yh (m2_5.out.kp k6);have V_6:=Yh (V_5.out.kp k6);have m3_6:=Yh (m3_5.out.kp k6);have m4_6:=Yh (m4_5.out.kp k6);have B_6:=Yh (B_5.out.kp k6);have C_6:=Yh (C_5.out.kp k6);have A_6:=Yh (A_5.out.kp k6);clear T_5 U_5 m1_5 m2_5 V_5 m3_5 m4_5 B_5 C_5 A_5;have D_6:=Yh hD;clear hD k6;obtain ⟨g0,g1,g2,_⟩:=T_6.out.ra.cells;obtain ⟨h0,h1,h2,_⟩:=T_6.out.rb.cells))
 go_upto_region 6 with fail
 have T_7:=Yh (T_6.out.kp (Below.refl _ _).drew)
 have U_7:=Yh (U_6.out.kp (Below.refl _ _).drew)
 have m1_7:=Yh (m1_6.out.kp (Below.refl _ _).drew)
 have m2_7:=Yh (m2_6.out.kp (Below.refl _ _).drew)
 have V_7:=Yh (V_6.out.kp (Below.refl _ _).drew)
 have m3_7:=Yh (m3_6.out.kp (Below.refl _ _).drew)
 have m4_7:=Yh (m4_6.out.kp (Below.refl _ _).drew)
 have B_7:=Yh (B_6.out.kp (Below.refl _ _).drew)
 have C_7:=Yh (C_6.out.kp (Below.refl _ _).drew)
 have A_7:=Yh (A_6.out.kp (Below.refl _ _).drew)
 have D_7:=Yh (D_6.out.kp (Below.refl _ _).drew)
 clear T_6 U_6 m1_6 m2_6 V_6 m3_6 m4_6 B_6 C_6 A_6 D_6
 go_region_held3 (fun w'=>w'.cell? ⟨w.heap.size,0,none⟩=some (.bool p)∧w'.cell? ⟨w.heap.size,1,none⟩=some (.slice a1 l1 c1)∧w'.cell? ⟨w.heap.size,2,none⟩=some (.slice a2 l2 c2)∧w'.cell? ⟨w.heap.size+1,0,none⟩=some (.bool (!p))∧w'.cell? ⟨w.heap.size+1,1,none⟩=some (.slice a3 l3 c3)∧w'.cell? ⟨w.heap.size+1,2,none⟩=some (.slice a4 l4 c4))
  (first|(refine ⟨?_,?_,?_,?_,?_,?_⟩<;>assumption)|go_keep)
  (first
   | (go_at_call 82;(with_reducible refine (CDA.out _ m1_7.out m2_7.out).mono ?_);rintro e w8 ⟨vA2,rfl,hA2,k8⟩;have T_8:=Yh (T_7.out.kp k8);have U_8:=Yh (U_7.out.kp k8);have m1_8:=Yh (m1_7.out.kp k8);have m2_8:=Yh (m2_7.out.kp k8);have V_8:=Yh (V_7.out.kp k8);have m3_8:=Yh (m3_7.out.kp k8);have m4_8:=Yh (m4_7.out.kp k8);have B_8:=Yh (B_7.out.kp k8);have C_8:=Yh (C_7.out.kp k8);have A_8:=Yh (A_7.out.kp k8);have D_8:=Yh (D_7.out.kp k8);clear T_7 U_7 m1_7 m2_7 V_7 m3_7 m4_7 B_7 C_7 A_7 D_7;have A2_8:=Yh hA2;clear hA2 k8;obtain ⟨g0,g1,g2,_⟩:=T_8.out.ra.cells;obtain ⟨h0,h1,h2,_⟩:=T_8.out.rb.cells)
   | (go_at_call 82;(with_reducible refine (CDB.out _ m3_8.out m4_8.out).mono ?_);rintro e w9 ⟨vB2,rfl,hB2,k9⟩;have T_9:=Yh (T_8.out.kp k9);have U_9:=Yh (U_8.out.kp k9);have m1_9:=Yh (m1_8.out.kp k9);have m2_9:=Yh (m2_8.out.kp k9);have V_9:=Yh (V_8.out.kp k9);have m3_9:=Yh (m3_8.out.kp k9);have m4_9:=Yh (m4_8.out.kp k9);have B_9:=Yh (B_8.out.kp k9);have C_9:=Yh (C_8.out.kp k9);have A_9:=Yh (A_8.out.kp k9);have D_9:=Yh (D_8.out.kp k9);have A2_9:=Yh (A2_8.out.kp k9);clear T_8 U_8 m1_8 m2_8 V_8 m3_8 m4_8 B_8 C_8 A_8 D_8 A2_8;have B2_9:=Yh hB2;clear hB2 k9;obtain ⟨g0,g1,g2,_⟩:=T_9.out.ra.cells;obtain ⟨h0,h1,h2,_⟩:=T_9.out.rb.cells)
   | (go_at_call 81;(with_reducible refine (CM3.out _ _ _ A2_9.out B2_9.out).mono ?_);rintro e w10 ⟨vE,rfl,hE,k10⟩;have T_10:=Yh (T_9.out.kp k10);have U_10:=Yh (U_9.out.kp k10);have m1_10:=Yh (m1_9.out.kp k10);have m2_10:=Yh (m2_9.out.kp k10);have V_10:=Yh (V_9.out.kp k10);have m3_10:=Yh (m3_9.out.kp k10);have m4_10:=Yh (m4_9.out.kp k10);have B_10:=Yh (B_9.out.kp k10);have C_10:=Yh (C_9.out.kp k10);have A_10:=Yh (A_9.out.kp k10);have D_10:=Yh (D_9.out.kp k10);have A2_10:=Yh (A2_9.out.kp k10);have B2_10:=Yh (B2_9.out.kp k10);clear T_9 U_9 m1_9 m2_9 V_9 m3_9 m4_9 B_9 C_9 A_9 D_9 A2_9 B2_9;have E_10:=Yh hE;clear hE k10;obtain ⟨g0,g1,g2,_⟩:=T_10.out.ra.cells;obtain ⟨h0,h1,h2,_⟩:=T_10.out.rb.cells))
 go_wp2_with (go_at_call 80;(with_reducible refine (CC.out _ _ _ C_10.out D_10.out).mono ?_);rintro e w11 ⟨rfl,k11⟩;refine Hid.out ?_)
 refine Yh ?_
 have T_11:=Yh (T_10.out.kp k11)
 have U_11:=Yh (U_10.out.kp k11)
 have m1_11:=Yh (m1_10.out.kp k11)
 have m2_11:=Yh (m2_10.out.kp k11)
 have V_11:=Yh (V_10.out.kp k11)
 have m3_11:=Yh (m3_10.out.kp k11)
 have m4_11:=Yh (m4_10.out.kp k11)
 have B_11:=Yh (B_10.out.kp k11)
 have C_11:=Yh (C_10.out.kp k11)
 have A_11:=Yh (A_10.out.kp k11)
 have D_11:=Yh (D_10.out.kp k11)
 have A2_11:=Yh (A2_10.out.kp k11)
 have B2_11:=Yh (B2_10.out.kp k11)
 have E_11:=Yh (E_10.out.kp k11)
 clear T_10 U_10 m1_10 m2_10 V_10 m3_10 m4_10 B_10 C_10 A_10 D_10 A2_10 B2_10 E_10
 clear k11
 obtain ⟨g0,g1,g2,_⟩:=T_11.out.ra.cells
 obtain ⟨h0,h1,h2,_⟩:=T_11.out.rb.cells
 go_wp2_with (go_at_call 94;(with_reducible refine (CZ.out _ _ _ D_11.out C_11.out).mono ?_);rintro e w12 ⟨vG,rfl,hG,k12⟩;refine Hid.out ?_)
 refine Yh ?_
 have T_12:=Yh (T_11.out.kp k12)
 have U_12:=Yh (U_11.out.kp k12)
 have m1_12:=Yh (m1_11.out.kp k12)
 have m2_12:=Yh (m2_11.out.kp k12)
 have V_12:=Yh (V_11.out.kp k12)
 have m3_12:=Yh (m3_11.out.kp k12)
 have m4_12:=Yh (m4_11.out.kp k12)
 have B_12:=Yh (B_11.out.kp k12)
 have C_12:=Yh (C_11.out.kp k12)
 have A_12:=Yh (A_11.out.kp k12)
 have D_12:=Yh (D_11.out.kp k12)
 have A2_12:=Yh (A2_11.out.kp k12)
 have B2_12:=Yh (B2_11.out.kp k12)
 have E_12:=Yh (E_11.out.kp k12)
 clear T_11 U_11 m1_11 m2_11 V_11 m3_11 m4_11 B_11 C_11 A_11 D_11 A2_11 B2_11 E_11
 have G_12:=Yh hG
 clear hG k12
 obtain ⟨g0,g1,g2,_⟩:=T_12.out.ra.cells
 obtain ⟨h0,h1,h2,_⟩:=T_12.out.rb.cells
 go_wp2_with (go_at_call 92;(with_reducible refine (CR.out _ _ _ _ G_12.out E_12.out).mono ?_);rintro e w13 ⟨vr,rfl,hvr,k13⟩;refine Hid.out ?_)
 refine Yh ?_
 have T_13:=Yh (T_12.out.kp k13)
 have U_13:=Yh (U_12.out.kp k13)
 have m1_13:=Yh (m1_12.out.kp k13)
 have m2_13:=Yh (m2_12.out.kp k13)
 have V_13:=Yh (V_12.out.kp k13)
 have m3_13:=Yh (m3_12.out.kp k13)
 have m4_13:=Yh (m4_12.out.kp k13)
 have B_13:=Yh (B_12.out.kp k13)
 have C_13:=Yh (C_12.out.kp k13)
 have A_13:=Yh (A_12.out.kp k13)
 have D_13:=Yh (D_12.out.kp k13)
 have A2_13:=Yh (A2_12.out.kp k13)
 have B2_13:=Yh (B2_12.out.kp k13)
 have E_13:=Yh (E_12.out.kp k13)
 have G_13:=Yh (G_12.out.kp k13)
 clear T_12 U_12 m1_12 m2_12 V_12 m3_12 m4_12 B_12 C_12 A_12 D_12 A2_12 B2_12 E_12 G_12
 clear k13
 obtain ⟨sgn,q1,r1,s1,q2,r2,s2,rfl⟩:=hvr.lit
 obtain ⟨⟨e0,e1,e2,f0,f1,f2⟩,HPP,HV,HKF⟩:=BQ T_13.out.rr T_13.out.k (Below.refl _ _) hvr (by omega)
 clear hvr
 obtain ⟨k0,k1,k2⟩:=HPP.out
 go_wp2
 exact bodyPost_ret (v:= .agg #[.bool sgn,.slice q1 r1 s1,.slice q2 r2 s2]) (by simp [results,Tryz.results45,go_sem,k0,k1,k2]) rfl ⟨_,rfl,HV.out,HKF.out⟩
set_option maxRecDepth 20000 in
theorem OB {w:World} {u:Value} {x:Rat} (hu:AC w u x) {v:Value} {y:Rat} (hv:AC w v y) {j k:Nat} (hs:RSz j x) (ht:RSz k y) (hj:j≤500000000) (hk:k≤500000000) (h0:x≠0) (h1:y≠0) (hs9:decide (y.num<0)=!decide (x.num<0)) (hlt: ¬x.num.natAbs*y.den<y.num.natAbs*x.den):
  Calls Tryz.prog 45 #[u,v] w fun e w'=> ∃r,e= .returned r∧AC w' r (x+y)∧Kp w w':=by
 have hres:AD (decide (x.num<0)) (x.num.natAbs*y.den-y.num.natAbs*x.den) (x.den*y.den)=x+y:=by
  have h:=FD (decide (x.num<0)) (n:=x.num.natAbs) (m:=y.num.natAbs) x.den_nz y.den_nz (Nat.not_lt.1 hlt)
  rw [←h,BL,←hs9,BL]
 rw [←hres]
 clear hres
 have hd0:x.den*y.den≠0:=Nat.mul_ne_zero x.den_nz y.den_nz
 have SA:Sz (j+k) (x.num.natAbs*y.den):=hs.1.mul ht.2
 have SB:Sz (k+j) (y.num.natAbs*x.den):=ht.1.mul hs.2
 have SD:Sz (j+k) (x.den*y.den):=hs.2.mul ht.2
 have SZ:Sz (j+k) (x.num.natAbs*y.den-y.num.natAbs*x.den):=SA.le (Nat.sub_le _ _)
 obtain ⟨a1,l1,c1,a2,l2,c2,rfl,m1,m2⟩:=hu.parts
 obtain ⟨a3,l3,c3,a4,l4,c4,rfl,m3,m4⟩:=hv.parts
 have HT:=Yh (Two.new w (.bool (decide (x.num<0))) (.slice a1 l1 c1) (.slice a2 l2 c2) (.bool (decide (y.num<0))) (.slice a3 l3 c3) (.slice a4 l4 c4))
 have HU:=Yh hu
 have Hm1:=Yh m1
 have Hm2:=Yh m2
 have HV:=Yh hv
 have Hm3:=Yh m3
 have Hm4:=Yh m4
 have CDA:=Yh (fun w' (a:M w' (.slice a1 l1 c1) x.num.natAbs) (b:M w' (.slice a2 l2 c2) (A7 x))=>FA (s:=decide (x.num<0)) a b)
 have CDB:=Yh (fun w' (a:M w' (.slice a3 l3 c3) y.num.natAbs) (b:M w' (.slice a4 l4 c4) (A7 y))=>FA (s:=decide (y.num<0)) a b)
 have CM1:=Yh (fun w' va vb (a:M w' va (x.num.natAbs)) (b:M w' vb (y.den))=>CI a b hs.1 ht.2 (by omega) (by omega))
 have CM2:=Yh (fun w' va vb (a:M w' va (y.num.natAbs)) (b:M w' vb (x.den))=>CI a b ht.1 hs.2 (by omega) (by omega))
 have CM3:=Yh (fun w' va vb (a:M w' va (x.den)) (b:M w' vb (y.den))=>CI a b hs.2 ht.2 (by omega) (by omega))
 have CC:=Yh (fun w' va vb (a:M w' va (x.num.natAbs*y.den)) (b:M w' vb (y.num.natAbs*x.den))=>CJ va vb _ _ w' a b)
 have CZ:=Yh (fun w' va vb (a:M w' va (x.num.natAbs*y.den)) (b:M w' vb (y.num.natAbs*x.den))=>MJ va vb _ _ w' a b (by unfold Sz at SA;omega) (Nat.not_lt.1 hlt))
 have CR:=Yh (fun w' s va vb (a:M w' va (x.num.natAbs*y.den-y.num.natAbs*x.den)) (b:M w' vb (x.den*y.den))=>Fz (neg:=s) a b SZ SD (by omega) (by omega) hd0)
 obtain ⟨p,hp⟩: ∃b,b=decide (x.num<0):=⟨_,rfl⟩
 try rw [←hp] at HT
 try rw [←hp] at HU
 try rw [←hp] at Hm1
 try rw [←hp] at Hm2
 try rw [←hp] at HV
 try rw [←hp] at Hm3
 try rw [←hp] at Hm4
 try rw [←hp] at CDA
 try rw [←hp] at CDB
 try rw [←hp] at CM1
 try rw [←hp] at CM2
 try rw [←hp] at CM3
 try rw [←hp] at CC
 try rw [←hp] at CZ
 try rw [←hp] at CR
 try rw [←hp]
 have HPp:=Yh hp
 obtain ⟨q,hq⟩: ∃b,b=decide (y.num<0):=⟨_,rfl⟩
 try rw [←hq] at HT
 try rw [←hq] at HU
 try rw [←hq] at Hm1
 try rw [←hq] at Hm2
 try rw [←hq] at HV
 try rw [←hq] at Hm3
 try rw [←hq] at Hm4
 try rw [←hq] at CDA
 try rw [←hq] at CDB
 try rw [←hq] at CM1
 try rw [←hq] at CM2
 try rw [←hq] at CM3
 try rw [←hq] at CC
 try rw [←hq] at CZ
 try rw [←hq] at CR
 try rw [←hq]
 have HPq:=Yh hq
 clear hu m1 m2 hp hv m3 m4 hq
 have hl1:0<l1:=by have:=Cq Hm1.out;have:x.num.natAbs≠0:=fun e=>h0 (Rat.num_eq_zero.1 (Int.natAbs_eq_zero.1 e));omega
 have hl1z:((l1:Int)==0)=false:=beq_eq_false_iff_ne.2 (by omega)
 have hl3:0<l3:=by have:=Cq Hm3.out;have:y.num.natAbs≠0:=fun e=>h1 (Rat.num_eq_zero.1 (Int.natAbs_eq_zero.1 e));omega
 have hl3z:((l3:Int)==0)=false:=beq_eq_false_iff_ne.2 (by omega)
 have hpq:q=!p:=by rw [HPp.out,HPq.out,hs9]
 subst hpq
 have hpn:(p==!p)=false:=by cases p<;>rfl
 have hpn2:(p=!p)=False:=by cases p<;>simp
 obtain ⟨cc,hcc⟩: ∃c,c=Bx (x.num.natAbs*y.den) (y.num.natAbs*x.den):=⟨_,rfl⟩
 rw [←hcc] at CC
 have hcd:decide (cc<0)=false:=by rw [hcc];exact decide_eq_false (by unfold Bx;split<;>first|omega|(split<;>omega))
 clear hcc hlt
 clear SA SB SD SZ hd0 h0 h1 hs9 hs ht hj hk
 go_enter Tryz.func45,Tryz.ntmps45
 have KN:=HT.out.k
 have U_e:=Yh (HU.out.kp KN)
 have m1_e:=Yh (Hm1.out.kp KN)
 have m2_e:=Yh (Hm2.out.kp KN)
 have V_e:=Yh (HV.out.kp KN)
 have m3_e:=Yh (Hm3.out.kp KN)
 have m4_e:=Yh (Hm4.out.kp KN)
 clear KN
 obtain ⟨g0,g1,g2,_⟩:=HT.out.ra.cells
 obtain ⟨h0,h1,h2,_⟩:=HT.out.rb.cells
 go_upto_region 5 with fail
 have T_2:=Yh (HT.out.kp (Below.refl _ _).drew)
 have U_2:=Yh (U_e.out.kp (Below.refl _ _).drew)
 have m1_2:=Yh (m1_e.out.kp (Below.refl _ _).drew)
 have m2_2:=Yh (m2_e.out.kp (Below.refl _ _).drew)
 have V_2:=Yh (V_e.out.kp (Below.refl _ _).drew)
 have m3_2:=Yh (m3_e.out.kp (Below.refl _ _).drew)
 have m4_2:=Yh (m4_e.out.kp (Below.refl _ _).drew)
 clear HT U_e m1_e m2_e V_e m3_e m4_e
 go_region_held3 (fun w'=>w'.cell? ⟨w.heap.size,0,none⟩=some (.bool p)∧w'.cell? ⟨w.heap.size,1,none⟩=some (.slice a1 l1 c1)∧w'.cell? ⟨w.heap.size,2,none⟩=some (.slice a2 l2 c2)∧w'.cell? ⟨w.heap.size+1,0,none⟩=some (.bool (!p))∧w'.cell? ⟨w.heap.size+1,1,none⟩=some (.slice a3 l3 c3)∧w'.cell? ⟨w.heap.size+1,2,none⟩=some (.slice a4 l4 c4))
  (first|(refine ⟨?_,?_,?_,?_,?_,?_⟩<;>assumption)|go_keep)
  (first
   | (go_at_call 82;(with_reducible refine (CDB.out _ m3_2.out m4_2.out).mono ?_);rintro e w3 ⟨vB,rfl,hB,k3⟩;have T_3:=Yh (T_2.out.kp k3);have U_3:=Yh (U_2.out.kp k3);have m1_3:=Yh (m1_2.out.kp k3);have m2_3:=Yh (m2_2.out.kp k3);have V_3:=Yh (V_2.out.kp k3);have m3_3:=Yh (m3_2.out.kp k3);have m4_3:=Yh (m4_2.out.kp k3);clear T_2 U_2 m1_2 m2_2 V_2 m3_2 m4_2;have B_3:=Yh hB;clear hB k3;obtain ⟨g0,g1,g2,_⟩:=T_3.out.ra.cells;obtain ⟨h0,h1,h2,_⟩:=T_3.out.rb.cells)
   | (go_at_call 81;(with_reducible refine (CM1.out _ _ _ m1_3.out B_3.out).mono ?_);rintro e w4 ⟨vC,rfl,hC,k4⟩;have T_4:=Yh (T_3.out.kp k4);have U_4:=Yh (U_3.out.kp k4);have m1_4:=Yh (m1_3.out.kp k4);have m2_4:=Yh (m2_3.out.kp k4);have V_4:=Yh (V_3.out.kp k4);have m3_4:=Yh (m3_3.out.kp k4);have m4_4:=Yh (m4_3.out.kp k4);have B_4:=Yh (B_3.out.kp k4);clear T_3 U_3 m1_3 m2_3 V_3 m3_3 m4_3 B_3;have C_4:=Yh hC;clear hC k4;obtain ⟨g0,g1,g2,_⟩:=T_4.out.ra.cells;obtain ⟨h0,h1,h2,_⟩:=T_4.out.rb.cells)
   | (go_at_call 82;(with_reducible refine (CDA.out _ m1_4.out m2_4.out).mono ?_);rintro e w5 ⟨vA,rfl,hA,k5⟩;have T_5:=Yh (T_4.out.kp k5);have U_5:=Yh (U_4.out.kp k5);have m1_5:=Yh (m1_4.out.kp k5);have m2_5:=Yh (m2_4.out.kp k5);have V_5:=Yh (V_4.out.kp k5);have m3_5:=Yh (m3_4.out.kp k5);have m4_5:=Yh (m4_4.out.kp k5);have B_5:=Yh (B_4.out.kp k5);have C_5:=Yh (C_4.out.kp k5);clear T_4 U_4 m1_4 m2_4 V_4 m3_4 m4_4 B_4 C_4;have A_5:=Yh hA;clear hA k5;obtain ⟨g0,g1,g2,_⟩:=T_5.out.ra.cells;obtain ⟨h0,h1,h2,_⟩:=T_5.out.rb.cells)
   | (go_at_call 81;(with_reducible refine (CM2.out _ _ _ m3_5.out A_5.out).mono ?_);rintro e w6 ⟨vD,rfl,hD,k6⟩;have T_6:=Yh (T_5.out.kp k6);have U_6:=Yh (U_5.out.kp k6);have m1_6:=Yh (m1_5.out.kp k6);have m2_6:=Yh (m2_5.out.kp k6);have V_6:=Yh (V_5.out.kp k6);have m3_6:=Yh (m3_5.out.kp k6);have m4_6:=Yh (m4_5.out.kp k6);have B_6:=Yh (B_5.out.kp k6);have C_6:=Yh (C_5.out.kp k6);have A_6:=Yh (A_5.out.kp k6);clear T_5 U_5 m1_5 m2_5 V_5 m3_5 m4_5 B_5 C_5 A_5;have D_6:=Yh hD;clear hD k6;obtain ⟨g0,g1,g2,_⟩:=T_6.out.ra.cells;obtain ⟨h0,h1,h2,_⟩:=T_6.out.rb.cells))
 go_upto_region 6 with fail
 have T_7:=Yh (T_6.out.kp (Below.refl _ _).drew)
 have U_7:=Yh (U_6.out.kp (Below.refl _ _).drew)
 have m1_7:=Yh (m1_6.out.kp (Below.refl _ _).drew)
 have m2_7:=Yh (m2_6.out.kp (Below.refl _ _).drew)
 have V_7:=Yh (V_6.out.kp (Below.refl _ _).drew)
 have m3_7:=Yh (m3_6.out.kp (Below.refl _ _).drew)
 have m4_7:=Yh (m4_6.out.kp (Below.refl _ _).drew)
 have B_7:=Yh (B_6.out.kp (Below.refl _ _).drew)
 have C_7:=Yh (C_6.out.kp (Below.refl _ _).drew)
 have A_7:=Yh (A_6.out.kp (Below.refl _ _).drew)
 have D_7:=Yh (D_6.out.kp (Below.refl _ _).drew)
 clear T_6 U_6 m1_6 m2_6 V_6 m3_6 m4_6 B_6 C_6 A_6 D_6
 go_region_held3 (fun w'=>w'.cell? ⟨w.heap.size,0,none⟩=some (.bool p)∧w'.cell? ⟨w.heap.size,1,none⟩=some (.slice a1 l1 c1)∧w'.cell? ⟨w.heap.size,2,none⟩=some (.slice a2 l2 c2)∧w'.cell? ⟨w.heap.size+1,0,none⟩=some (.bool (!p))∧w'.cell? ⟨w.heap.size+1,1,none⟩=some (.slice a3 l3 c3)∧w'.cell? ⟨w.heap.size+1,2,none⟩=some (.slice a4 l4 c4))
  (first|(refine ⟨?_,?_,?_,?_,?_,?_⟩<;>assumption)|go_keep)
  (first
   | (go_at_call 82;(with_reducible refine (CDA.out _ m1_7.out m2_7.out).mono ?_);rintro e w8 ⟨vA2,rfl,hA2,k8⟩;have T_8:=Yh (T_7.out.kp k8);have U_8:=Yh (U_7.out.kp k8);have m1_8:=Yh (m1_7.out.kp k8);have m2_8:=Yh (m2_7.out.kp k8);have V_8:=Yh (V_7.out.kp k8);have m3_8:=Yh (m3_7.out.kp k8);have m4_8:=Yh (m4_7.out.kp k8);have B_8:=Yh (B_7.out.kp k8);have C_8:=Yh (C_7.out.kp k8);have A_8:=Yh (A_7.out.kp k8);have D_8:=Yh (D_7.out.kp k8);clear T_7 U_7 m1_7 m2_7 V_7 m3_7 m4_7 B_7 C_7 A_7 D_7;have A2_8:=Yh hA2;clear hA2 k8;obtain ⟨g0,g1,g2,_⟩:=T_8.out.ra.cells;obtain ⟨h0,h1,h2,_⟩:=T_8.out.rb.cells)
   | (go_at_call 82;(with_reducible refine (CDB.out _ m3_8.out m4_8.out).mono ?_);rintro e w9 ⟨vB2,rfl,hB2,k9⟩;have T_9:=Yh (T_8.out.kp k9);have U_9:=Yh (U_8.out.kp k9);have m1_9:=Yh (m1_8.out.kp k9);have m2_9:=Yh (m2_8.out.kp k9);have V_9:=Yh (V_8.out.kp k9);have m3_9:=Yh (m3_8.out.kp k9);have m4_9:=Yh (m4_8.out.kp k9);have B_9:=Yh (B_8.out.kp k9);have C_9:=Yh (C_8.out.kp k9);have A_9:=Yh (A_8.out.kp k9);have D_9:=Yh (D_8.out.kp k9);have A2_9:=Yh (A2_8.out.kp k9);clear T_8 U_8 m1_8 m2_8 V_8 m3_8 m4_8 B_8 C_8 A_8 D_8 A2_8;have B2_9:=Yh hB2;clear hB2 k9;obtain ⟨g0,g1,g2,_⟩:=T_9.out.ra.cells;obtain ⟨h0,h1,h2,_⟩:=T_9.out.rb.cells)
   | (go_at_call 81;(with_reducible refine (CM3.out _ _ _ A2_9.out B2_9.out).mono ?_);rintro e w10 ⟨vE,rfl,hE,k10⟩;have T_10:=Yh (T_9.out.kp k10);have U_10:=Yh (U_9.out.kp k10);have m1_10:=Yh (m1_9.out.kp k10);have m2_10:=Yh (m2_9.out.kp k10);have V_10:=Yh (V_9.out.kp k10);have m3_10:=Yh (m3_9.out.kp k10);have m4_10:=Yh (m4_9.out.kp k10);have B_10:=Yh (B_9.out.kp k10);have C_10:=Yh (C_9.out.kp k10);have A_10:=Yh (A_9.out.kp k10);have D_10:=Yh (D_9.out.kp k10);have A2_10:=Yh (A2_9.out.kp k10);have B2_10:=Yh (B2_9.out.kp k10);clear T_9 U_9 m1_9 m2_9 V_9 m3_9 m4_9 B_9 C_9 A_9 D_9 A2_9 B2_9;have E_10:=Yh hE;clear hE k10;obtain ⟨g0,g1,g2,_⟩:=T_10.out.ra.cells;obtain ⟨h0,h1,h2,_⟩:=T_10.out.rb.cells))
 go_wp2_with (go_at_call 80;(with_reducible refine (CC.out _ _ _ C_10.out D_10.out).mono ?_);rintro e w11 ⟨rfl,k11⟩;refine Hid.out ?_)
 refine Yh ?_
 have T_11:=Yh (T_10.out.kp k11)
 have U_11:=Yh (U_10.out.kp k11)
 have m1_11:=Yh (m1_10.out.kp k11)
 have m2_11:=Yh (m2_10.out.kp k11)
 have V_11:=Yh (V_10.out.kp k11)
 have m3_11:=Yh (m3_10.out.kp k11)
 have m4_11:=Yh (m4_10.out.kp k11)
 have B_11:=Yh (B_10.out.kp k11)
 have C_11:=Yh (C_10.out.kp k11)
 have A_11:=Yh (A_10.out.kp k11)
 have D_11:=Yh (D_10.out.kp k11)
 have A2_11:=Yh (A2_10.out.kp k11)
 have B2_11:=Yh (B2_10.out.kp k11)
 have E_11:=Yh (E_10.out.kp k11)
 clear T_10 U_10 m1_10 m2_10 V_10 m3_10 m4_10 B_10 C_10 A_10 D_10 A2_10 B2_10 E_10
 clear k11
 obtain ⟨g0,g1,g2,_⟩:=T_11.out.ra.cells
 obtain ⟨h0,h1,h2,_⟩:=T_11.out.rb.cells
 go_wp2_with (go_at_call 94;(with_reducible refine (CZ.out _ _ _ C_11.out D_11.out).mono ?_);rintro e w12 ⟨vG,rfl,hG,k12⟩;refine Hid.out ?_)
 refine Yh ?_
 have T_12:=Yh (T_11.out.kp k12)
 have U_12:=Yh (U_11.out.kp k12)
 have m1_12:=Yh (m1_11.out.kp k12)
 have m2_12:=Yh (m2_11.out.kp k12)
 have V_12:=Yh (V_11.out.kp k12)
 have m3_12:=Yh (m3_11.out.kp k12)
 have m4_12:=Yh (m4_11.out.kp k12)
 have B_12:=Yh (B_11.out.kp k12)
 have C_12:=Yh (C_11.out.kp k12)
 have A_12:=Yh (A_11.out.kp k12)
 have D_12:=Yh (D_11.out.kp k12)
 have A2_12:=Yh (A2_11.out.kp k12)
 have B2_12:=Yh (B2_11.out.kp k12)
 have E_12:=Yh (E_11.out.kp k12)
 clear T_11 U_11 m1_11 m2_11 V_11 m3_11 m4_11 B_11 C_11 A_11 D_11 A2_11 B2_11 E_11
 have G_12:=Yh hG
 clear hG k12
 obtain ⟨g0,g1,g2,_⟩:=T_12.out.ra.cells
 obtain ⟨h0,h1,h2,_⟩:=T_12.out.rb.cells
 go_wp2_with (go_at_call 92;(with_reducible refine (CR.out _ _ _ _ G_12.out E_12.out).mono ?_);rintro e w13 ⟨vr,rfl,hvr,k13⟩;refine Hid.out ?_)
 refine Yh ?_
 have T_13:=Yh (T_12.out.kp k13)
 have U_13:=Yh (U_12.out.kp k13)
 have m1_13:=Yh (m1_12.out.kp k13)
 have m2_13:=Yh (m2_12.out.kp k13)
 have V_13:=Yh (V_12.out.kp k13)
 have m3_13:=Yh (m3_12.out.kp k13)
 have m4_13:=Yh (m4_12.out.kp k13)
 have B_13:=Yh (B_12.out.kp k13)
 have C_13:=Yh (C_12.out.kp k13)
 have A_13:=Yh (A_12.out.kp k13)
 have D_13:=Yh (D_12.out.kp k13)
 have A2_13:=Yh (A2_12.out.kp k13)
 have B2_13:=Yh (B2_12.out.kp k13)
 have E_13:=Yh (E_12.out.kp k13)
 have G_13:=Yh (G_12.out.kp k13)
 clear T_12 U_12 m1_12 m2_12 V_12 m3_12 m4_12 B_12 C_12 A_12 D_12 A2_12 B2_12 E_12 G_12
 clear k13
 obtain ⟨sgn,q1,r1,s1,q2,r2,s2,rfl⟩:=hvr.lit
 obtain ⟨⟨e0,e1,e2,f0,f1,f2⟩,HPP,HV,HKF⟩:=BQ T_13.out.rr T_13.out.k (Below.refl _ _) hvr (by omega)
 clear hvr
 obtain ⟨k0,k1,k2⟩:=HPP.out
 go_wp2
 exact bodyPost_ret (v:= .agg #[.bool sgn,.slice q1 r1 s1,.slice q2 r2 s2]) (by simp [results,Tryz.results45,go_sem,k0,k1,k2]) rfl ⟨_,rfl,HV.out,HKF.out⟩
theorem Hi {w:World} {u:Value} {x:Rat} (hu:AC w u x) {v:Value} {y:Rat} (hv:AC w v y) {j k:Nat} (hs:RSz j x) (ht:RSz k y) (hj:j≤500000000) (hk:k≤500000000):
  Calls Tryz.prog 45 #[u,v] w fun e w'=> ∃r,e= .returned r∧AC w' r (x+y)∧Kp w w':=by
 by_cases h0:x=0
 ·have:=OD hu hv h0
  rw [h0,Rat.zero_add]
  exact this
 ·by_cases h1:y=0
  ·have:=ML hu hv h1 h0
   rw [h1,Rat.add_zero]
   exact this
  ·by_cases hs9:decide (x.num<0)=decide (y.num<0)
   ·exact OA hu hv hs ht hj hk h0 h1 hs9
   ·have hn:decide (y.num<0)=!decide (x.num<0):=by
     generalize decide (x.num<0)=a at*
     generalize decide (y.num<0)=b at*
     cases a<;>cases b<;>simp_all
    by_cases hlt:x.num.natAbs*y.den<y.num.natAbs*x.den
    ·exact OC hu hv hs ht hj hk h0 h1 hn hlt
    ·exact OB hu hv hs ht hj hk h0 h1 hn hlt
theorem Re {w:World} {u:Value} {x:Rat} (hu:AC w u x) {v:Value} {y:Rat} (hv:AC w v y) {j k:Nat} (hs:RSz j x) (ht:RSz k y) (hj:j≤500000000) (hk:k≤500000000):
  Calls Tryz.prog 79 #[u,v] w fun e w'=> ∃r,e= .returned r∧AC w' r (x-y)∧Kp w w':=by
 rw [Rat.sub_eq_add_neg]
 obtain ⟨a1,l1,c1,a2,l2,c2,rfl,m1,m2⟩:=hu.parts
 obtain ⟨a3,l3,c3,a4,l4,c4,rfl,m3,m4⟩:=hv.parts
 have HT:=Yh (Two.new w (.bool (decide (x.num<0))) (.slice a1 l1 c1) (.slice a2 l2 c2) (.bool (decide (y.num<0))) (.slice a3 l3 c3) (.slice a4 l4 c4))
 have HU:=Yh hu
 have HV:=Yh hv
 have CN:=Yh (fun w' a (ha:AC w' a y)=>Rf ha)
 have CA:=Yh (fun w' a b (ha:AC w' a x) (hb:AC w' b (-y))=>Hi ha hb hs ht.neg hj hk)
 obtain ⟨p,hp⟩: ∃b,b=decide (x.num<0):=⟨_,rfl⟩
 try rw [←hp] at HT
 try rw [←hp] at HU
 try rw [←hp] at HV
 try rw [←hp] at CN
 try rw [←hp] at CA
 try rw [←hp]
 have HPp:=Yh hp
 obtain ⟨q,hq⟩: ∃b,b=decide (y.num<0):=⟨_,rfl⟩
 try rw [←hq] at HT
 try rw [←hq] at HU
 try rw [←hq] at HV
 try rw [←hq] at CN
 try rw [←hq] at CA
 try rw [←hq]
 have HPq:=Yh hq
 clear hu m1 m2 hp hv m3 m4 hq
 go_enter Tryz.func79,Tryz.ntmps79
 have KN:=HT.out.k
 have U_e:=Yh (HU.out.kp KN)
 have V_e:=Yh (HV.out.kp KN)
 clear KN
 obtain ⟨g0,g1,g2,_⟩:=HT.out.ra.cells
 obtain ⟨h0,h1,h2,_⟩:=HT.out.rb.cells
 have n1: ¬(w.heap.size+1+1=w.heap.size):=by omega
 have n2: ¬(w.heap.size=w.heap.size+1+1):=by omega
 go_wp2_with fail
 have T_2:=Yh (HT.out.kp (Below.refl _ _).drew)
 have U_2:=Yh (U_e.out.kp (Below.refl _ _).drew)
 have V_2:=Yh (V_e.out.kp (Below.refl _ _).drew)
 clear HT U_e V_e
 go_region_held3 (fun w'=>w'.cell? ⟨w.heap.size,0,none⟩=some (.bool p)∧w'.cell? ⟨w.heap.size,1,none⟩=some (.slice a1 l1 c1)∧w'.cell? ⟨w.heap.size,2,none⟩=some (.slice a2 l2 c2)∧w'.cell? ⟨w.heap.size+1,0,none⟩=some (.bool q)∧w'.cell? ⟨w.heap.size+1,1,none⟩=some (.slice a3 l3 c3)∧w'.cell? ⟨w.heap.size+1,2,none⟩=some (.slice a4 l4 c4))
  (first|(refine ⟨?_,?_,?_,?_,?_,?_⟩<;>assumption)|go_keep)
  (first
   | (go_at_call 112;(with_reducible refine (CN.out _ _ V_2.out).mono ?_);rintro e w3 ⟨vn,rfl,hvn,k3⟩;have T_3:=Yh (T_2.out.kp k3);have U_3:=Yh (U_2.out.kp k3);have V_3:=Yh (V_2.out.kp k3);clear T_2 U_2 V_2;have N_3:=Yh hvn;clear hvn k3;obtain ⟨g0,g1,g2,_⟩:=T_3.out.ra.cells;obtain ⟨h0,h1,h2,_⟩:=T_3.out.rb.cells)
   | (go_at_call 45;(with_reducible refine (CA.out _ _ _ U_3.out N_3.out).mono ?_);rintro e w4 ⟨vr,rfl,hvr,k4⟩;have T_4:=Yh (T_3.out.kp k4);have U_4:=Yh (U_3.out.kp k4);have V_4:=Yh (V_3.out.kp k4);have N_4:=Yh (N_3.out.kp k4);clear T_3 U_3 V_3 N_3;obtain ⟨sgn,q1,r1,s1,q2,r2,s2,rfl⟩:=hvr.lit;obtain ⟨⟨e0,e1,e2,f0,f1,f2⟩,HPP,HV,HKF⟩:=BQ T_4.out.rr T_4.out.k (Below.refl _ _) hvr (by omega);clear hvr;clear k4;obtain ⟨g0,g1,g2,_⟩:=T_4.out.ra.cells;obtain ⟨h0,h1,h2,_⟩:=T_4.out.rb.cells))
 obtain ⟨k0,k1,k2⟩:=HPP.out
 go_wp2
 exact bodyPost_ret (v:= .agg #[.bool sgn,.slice q1 r1 s1,.slice q2 r2 s2]) (by simp [results,Tryz.results79,go_sem,k0,k1,k2]) rfl ⟨_,rfl,HV.out,HKF.out⟩
theorem Rg {w:World} {u:Value} {x:Rat} (hu:AC w u x) {v:Value} {y:Rat} (hv:AC w v y) {j k:Nat} (hs:RSz j x) (ht:RSz k y) (hj:j≤200000000) (hk:k≤200000000):
  Calls Tryz.prog 48 #[u,v] w fun e w'=> ∃r,e= .returned r∧AC w' r ((x+y)*AD false 1 2)∧Kp w w':=by
 have hh:RSz 1 (AD false 1 2):=RSz.of_mkRat (AB _ 1 (by decide)) (AB _ 1 (by decide)) (by decide)
 obtain ⟨a1,l1,c1,a2,l2,c2,rfl,m1,m2⟩:=hu.parts
 obtain ⟨a3,l3,c3,a4,l4,c4,rfl,m3,m4⟩:=hv.parts
 have HT:=Yh (Two.new w (.bool (decide (x.num<0))) (.slice a1 l1 c1) (.slice a2 l2 c2) (.bool (decide (y.num<0))) (.slice a3 l3 c3) (.slice a4 l4 c4))
 have HU:=Yh hu
 have HV:=Yh hv
 have CA:=Yh (fun w' a b (ha:AC w' a x) (hb:AC w' b y)=>Hi ha hb hs ht (by omega) (by omega))
 have CF:=Yh (fun w'=>I6 (w:=w') 1 2 (by omega) (by omega) (by omega) (by omega) (by omega))
 have CM:=Yh (fun w' a b (ha:AC w' a (x+y)) (hb:AC w' b (AD false 1 2))=>J8 ha hb (hs.add ht) hh (by omega) (by omega))
 obtain ⟨p,hp⟩: ∃b,b=decide (x.num<0):=⟨_,rfl⟩
 try rw [←hp] at HT
 try rw [←hp] at HU
 try rw [←hp] at HV
 try rw [←hp] at CA
 try rw [←hp] at CF
 try rw [←hp] at CM
 try rw [←hp]
 have HPp:=Yh hp
 obtain ⟨q,hq⟩: ∃b,b=decide (y.num<0):=⟨_,rfl⟩
 try rw [←hq] at HT
 try rw [←hq] at HU
 try rw [←hq] at HV
 try rw [←hq] at CA
 try rw [←hq] at CF
 try rw [←hq] at CM
 try rw [←hq]
 have HPq:=Yh hq
 clear hu m1 m2 hp hv m3 m4 hq
 simp only [show decide ((1:Int)<0)=false from rfl,show decide ((2:Int)<0)=false from rfl,show (false !=false)=false from rfl,show (1:Int).natAbs=1 from rfl,show (2:Int).natAbs=2 from rfl] at CF
 clear hh hs ht hj hk
 go_enter Tryz.func48,Tryz.ntmps48
 have KN:=HT.out.k
 have U_e:=Yh (HU.out.kp KN)
 have V_e:=Yh (HV.out.kp KN)
 clear KN
 obtain ⟨g0,g1,g2,_⟩:=HT.out.ra.cells
 obtain ⟨h0,h1,h2,_⟩:=HT.out.rb.cells
 go_wp2_with (go_at_call 45;(with_reducible refine (CA.out _ _ _ U_e.out V_e.out).mono ?_);rintro e w2 ⟨va,rfl,hva,k2⟩;refine Hid.out ?_)
 refine Yh ?_
 have T_2:=Yh (HT.out.kp k2)
 have U_2:=Yh (U_e.out.kp k2)
 have V_2:=Yh (V_e.out.kp k2)
 clear HT U_e V_e
 have A_2:=Yh hva
 clear hva k2
 obtain ⟨g0,g1,g2,_⟩:=T_2.out.ra.cells
 obtain ⟨h0,h1,h2,_⟩:=T_2.out.rb.cells
 go_wp2_with (go_at_call 57;(with_reducible refine (CF.out _).mono ?_);rintro e w3 ⟨vf,rfl,hvf,k3⟩;refine Hid.out ?_)
 refine Yh ?_
 have T_3:=Yh (T_2.out.kp k3)
 have U_3:=Yh (U_2.out.kp k3)
 have V_3:=Yh (V_2.out.kp k3)
 have A_3:=Yh (A_2.out.kp k3)
 clear T_2 U_2 V_2 A_2
 have Fr_3:=Yh hvf
 clear hvf k3
 obtain ⟨g0,g1,g2,_⟩:=T_3.out.ra.cells
 obtain ⟨h0,h1,h2,_⟩:=T_3.out.rb.cells
 go_wp2_with (go_at_call 77;(with_reducible refine (CM.out _ _ _ A_3.out Fr_3.out).mono ?_);rintro e w4 ⟨vr,rfl,hvr,k4⟩;refine Hid.out ?_)
 refine Yh ?_
 have T_4:=Yh (T_3.out.kp k4)
 have U_4:=Yh (U_3.out.kp k4)
 have V_4:=Yh (V_3.out.kp k4)
 have A_4:=Yh (A_3.out.kp k4)
 have Fr_4:=Yh (Fr_3.out.kp k4)
 clear T_3 U_3 V_3 A_3 Fr_3
 clear k4
 obtain ⟨sgn,q1,r1,s1,q2,r2,s2,rfl⟩:=hvr.lit
 obtain ⟨⟨e0,e1,e2,f0,f1,f2⟩,HPP,HV,HKF⟩:=BQ T_4.out.rr T_4.out.k (Below.refl _ _) hvr (by omega)
 clear hvr
 obtain ⟨k0,k1,k2⟩:=HPP.out
 go_wp2
 exact bodyPost_ret (v:= .agg #[.bool sgn,.slice q1 r1 s1,.slice q2 r2 s2]) (by simp [results,Tryz.results48,go_sem,k0,k1,k2]) rfl ⟨_,rfl,HV.out,HKF.out⟩
end Go.Proofs.YtkmalkcgkcpcmaaGreatDoor
