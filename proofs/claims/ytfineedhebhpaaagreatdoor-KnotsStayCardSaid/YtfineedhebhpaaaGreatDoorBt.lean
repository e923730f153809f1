/-
  Several texts in one: Rq3, Rq4, Rq6, Rq8.
-/
import Derived.Test.YtfineedhebhpaaaGreatDoorBr
import Derived.Test.YtfineedhebhpaaaGreatDoorRq5
import Derived.Test.YtfineedhebhpaaaGreatDoorBs
import Derived.Test.YtfineedhebhpaaaGreatDoorRq7
namespace Go.Proofs.YtfineedhebhpaaaGreatDoor
open Lib renaming hid→Xu
set_option maxHeartbeats 16000000
open Go.RowKit
set_option maxRecDepth 20000 in
theorem Oj {w:World} {u:Value} {x:Rat} (hu:Ax w u x) {v:Value} {y:Rat} (hv:Ax w v y) (h0:x=0):
  Calls Tryz.prog 114 #[u,v] w fun e w'=> ∃r,e= .returned r∧Ax w' r (y)∧Kp w w':=by
 obtain ⟨a1,l1,c1,a2,l2,c2,rfl,m1,m2⟩:=hu.parts
 obtain ⟨a3,l3,c3,a4,l4,c4,rfl,m3,m4⟩:=hv.parts
 have HT:=Xu (Two.new w (.bool (decide (x.num<0))) (.slice a1 l1 c1) (.slice a2 l2 c2) (.bool (decide (y.num<0))) (.slice a3 l3 c3) (.slice a4 l4 c4))
 have HU:=Xu hu
 have Hm1:=Xu m1
 have Hm2:=Xu m2
 have HV:=Xu hv
 have Hm3:=Xu m3
 have Hm4:=Xu m4
 obtain ⟨p,hp⟩: ∃b,b=decide (x.num<0):=⟨_,rfl⟩
 try rw [←hp] at HT
 try rw [←hp] at HU
 try rw [←hp] at Hm1
 try rw [←hp] at Hm2
 try rw [←hp] at HV
 try rw [←hp] at Hm3
 try rw [←hp] at Hm4
 try rw [←hp]
 have HPp:=Xu hp
 obtain ⟨q,hq⟩: ∃b,b=decide (y.num<0):=⟨_,rfl⟩
 try rw [←hq] at HT
 try rw [←hq] at HU
 try rw [←hq] at Hm1
 try rw [←hq] at Hm2
 try rw [←hq] at HV
 try rw [←hq] at Hm3
 try rw [←hq] at Hm4
 try rw [←hq]
 have HPq:=Xu hq
 clear hu m1 m2 hp hv m3 m4 hq
 obtain rfl:=(Cp Hm1.out).2 (by rw [h0];rfl)
 clear h0
 go_enter Tryz.func114,Tryz.ntmps114
 have KN:=HT.out.k
 have U_e:=Xu (HU.out.kp KN)
 have m1_e:=Xu (Hm1.out.kp KN)
 have m2_e:=Xu (Hm2.out.kp KN)
 have V_e:=Xu (HV.out.kp KN)
 have m3_e:=Xu (Hm3.out.kp KN)
 have m4_e:=Xu (Hm4.out.kp KN)
 clear KN
 obtain ⟨g0,g1,g2,_⟩:=HT.out.ra.cells
 obtain ⟨h0,h1,h2,_⟩:=HT.out.rb.cells
 go_wp2
 exact bodyPost_ret (v:= .agg #[.bool q,.slice a3 l3 c3,.slice a4 l4 c4]) (by simp [results,Tryz.results114,go_sem]) rfl ⟨_,rfl,HV.out.kp (((Kp.alloc w _).tr (Kp.alloc _ _)).tr (Kp.alloc _ _)),(((Kp.alloc w _).tr (Kp.alloc _ _)).tr (Kp.alloc _ _))⟩
set_option maxRecDepth 20000 in
theorem Mt {w:World} {u:Value} {x:Rat} (hu:Ax w u x) {v:Value} {y:Rat} (hv:Ax w v y) (h0:y=0) (h1:x≠0):
  Calls Tryz.prog 114 #[u,v] w fun e w'=> ∃r,e= .returned r∧Ax w' r (x)∧Kp w w':=by
 obtain ⟨a1,l1,c1,a2,l2,c2,rfl,m1,m2⟩:=hu.parts
 obtain ⟨a3,l3,c3,a4,l4,c4,rfl,m3,m4⟩:=hv.parts
 have HT:=Xu (Two.new w (.bool (decide (x.num<0))) (.slice a1 l1 c1) (.slice a2 l2 c2) (.bool (decide (y.num<0))) (.slice a3 l3 c3) (.slice a4 l4 c4))
 have HU:=Xu hu
 have Hm1:=Xu m1
 have Hm2:=Xu m2
 have HV:=Xu hv
 have Hm3:=Xu m3
 have Hm4:=Xu m4
 obtain ⟨p,hp⟩: ∃b,b=decide (x.num<0):=⟨_,rfl⟩
 try rw [←hp] at HT
 try rw [←hp] at HU
 try rw [←hp] at Hm1
 try rw [←hp] at Hm2
 try rw [←hp] at HV
 try rw [←hp] at Hm3
 try rw [←hp] at Hm4
 try rw [←hp]
 have HPp:=Xu hp
 obtain ⟨q,hq⟩: ∃b,b=decide (y.num<0):=⟨_,rfl⟩
 try rw [←hq] at HT
 try rw [←hq] at HU
 try rw [←hq] at Hm1
 try rw [←hq] at Hm2
 try rw [←hq] at HV
 try rw [←hq] at Hm3
 try rw [←hq] at Hm4
 try rw [←hq]
 have HPq:=Xu hq
 clear hu m1 m2 hp hv m3 m4 hq
 obtain rfl:=(Cp Hm3.out).2 (by rw [h0];rfl)
 have hl1:0<l1:=by have:=Cp Hm1.out;have:x.num.natAbs≠0:=fun e=>h1 (Rat.num_eq_zero.1 (Int.natAbs_eq_zero.1 e));omega
 have hl1z:((l1:Int)==0)=false:=beq_eq_false_iff_ne.2 (by omega)
 clear h0 h1
 go_enter Tryz.func114,Tryz.ntmps114
 have KN:=HT.out.k
 have U_e:=Xu (HU.out.kp KN)
 have m1_e:=Xu (Hm1.out.kp KN)
 have m2_e:=Xu (Hm2.out.kp KN)
 have V_e:=Xu (HV.out.kp KN)
 have m3_e:=Xu (Hm3.out.kp KN)
 have m4_e:=Xu (Hm4.out.kp KN)
 clear KN
 obtain ⟨g0,g1,g2,_⟩:=HT.out.ra.cells
 obtain ⟨h0,h1,h2,_⟩:=HT.out.rb.cells
 go_wp2
 exact bodyPost_ret (v:= .agg #[.bool p,.slice a1 l1 c1,.slice a2 l2 c2]) (by simp [results,Tryz.results114,go_sem]) rfl ⟨_,rfl,HU.out.kp (((Kp.alloc w _).tr (Kp.alloc _ _)).tr (Kp.alloc _ _)),(((Kp.alloc w _).tr (Kp.alloc _ _)).tr (Kp.alloc _ _))⟩
set_option maxRecDepth 20000 in
theorem Og {w:World} {u:Value} {x:Rat} (hu:Ax w u x) {v:Value} {y:Rat} (hv:Ax w v y) {j k:Nat} (hs:RSz j x) (ht:RSz k y) (hj:j≤500000000) (hk:k≤500000000) (h0:x≠0) (h1:y≠0) (hs9:decide (x.num<0)=decide (y.num<0)):
  Calls Tryz.prog 114 #[u,v] w fun e w'=> ∃r,e= .returned r∧Ax w' r (x+y)∧Kp w w':=by
 have hres:AH (decide (x.num<0)) (x.num.natAbs*y.den+y.num.natAbs*x.den) (x.den*y.den)=x+y:=by
  rw [←IV _ x.den_nz y.den_nz,BJ,hs9,BJ]
 rw [←hres]
 clear hres
 have hd0:x.den*y.den≠0:=Nat.mul_ne_zero x.den_nz y.den_nz
 have SA:Sz (j+k) (x.num.natAbs*y.den):=hs.1.mul ht.2
 have SB:Sz (k+j) (y.num.natAbs*x.den):=ht.1.mul hs.2
 have SD:Sz (j+k) (x.den*y.den):=hs.2.mul ht.2
 have SZ:Sz (j+k+1) _:=SA.plus (by rw [Nat.add_comm j k];exact SB)
 obtain ⟨a1,l1,c1,a2,l2,c2,rfl,m1,m2⟩:=hu.parts
 obtain ⟨a3,l3,c3,a4,l4,c4,rfl,m3,m4⟩:=hv.parts
 have HT:=Xu (Two.new w (.bool (decide (x.num<0))) (.slice a1 l1 c1) (.slice a2 l2 c2) (.bool (decide (y.num<0))) (.slice a3 l3 c3) (.slice a4 l4 c4))
 have HU:=Xu hu
 have Hm1:=Xu m1
 have Hm2:=Xu m2
 have HV:=Xu hv
 have Hm3:=Xu m3
 have Hm4:=Xu m4
 have CDA:=Xu (fun w' (a:M w' (.slice a1 l1 c1) x.num.natAbs) (b:M w' (.slice a2 l2 c2) (A0 x))=>EL (s:=decide (x.num<0)) a b)
 have CDB:=Xu (fun w' (a:M w' (.slice a3 l3 c3) y.num.natAbs) (b:M w' (.slice a4 l4 c4) (A0 y))=>EL (s:=decide (y.num<0)) a b)
 have CM1:=Xu (fun w' va vb (a:M w' va (x.num.natAbs)) (b:M w' vb (y.den))=>Ci a b hs.1 ht.2 (by omega) (by omega))
 have CM2:=Xu (fun w' va vb (a:M w' va (y.num.natAbs)) (b:M w' vb (x.den))=>Ci a b ht.1 hs.2 (by omega) (by omega))
 have CM3:=Xu (fun w' va vb (a:M w' va (x.den)) (b:M w' vb (y.den))=>Ci a b hs.2 ht.2 (by omega) (by omega))
 have CZ:=Xu (fun w' va vb (a:M w' va (x.num.natAbs*y.den)) (b:M w' vb (y.num.natAbs*x.den))=>SR a b SA SB (by omega) (by omega))
 have CR:=Xu (fun w' s va vb (a:M w' va (x.num.natAbs*y.den+y.num.natAbs*x.den)) (b:M w' vb (x.den*y.den))=>FH (neg:=s) a b SZ SD (by omega) (by omega) hd0)
 obtain ⟨p,hp⟩: ∃b,b=decide (x.num<0):=⟨_,rfl⟩
 try rw [←hp] at HT
 try rw [←hp] at HU
 try rw [←hp] at Hm1
 try rw [←hp] at Hm2
 try rw [←hp] at HV
 try rw [←hp] at Hm3
 try rw [←hp] at Hm4
 try rw [←hp] at CDA
 try rw [←hp] at CDB
 try rw [←hp] at CM1
 try rw [←hp] at CM2
 try rw [←hp] at CM3
 try rw [←hp] at CZ
 try rw [←hp] at CR
 try rw [←hp]
 have HPp:=Xu hp
 obtain ⟨q,hq⟩: ∃b,b=decide (y.num<0):=⟨_,rfl⟩
 try rw [←hq] at HT
 try rw [←hq] at HU
 try rw [←hq] at Hm1
 try rw [←hq] at Hm2
 try rw [←hq] at HV
 try rw [←hq] at Hm3
 try rw [←hq] at Hm4
 try rw [←hq] at CDA
 try rw [←hq] at CDB
 try rw [←hq] at CM1
 try rw [←hq] at CM2
 try rw [←hq] at CM3
 try rw [←hq] at CZ
 try rw [←hq] at CR
 try rw [←hq]
 have HPq:=Xu hq
 clear hu m1 m2 hp hv m3 m4 hq
 have hl1:0<l1:=by have:=Cp Hm1.out;have:x.num.natAbs≠0:=fun e=>h0 (Rat.num_eq_zero.1 (Int.natAbs_eq_zero.1 e));omega
 have hl1z:((l1:Int)==0)=false:=beq_eq_false_iff_ne.2 (by omega)
 have hl3:0<l3:=by have:=Cp Hm3.out;have:y.num.natAbs≠0:=fun e=>h1 (Rat.num_eq_zero.1 (Int.natAbs_eq_zero.1 e));omega
 have hl3z:((l3:Int)==0)=false:=beq_eq_false_iff_ne.2 (by omega)
 have hpq:p=q:=by rw [HPp.out,HPq.out,hs9]
 subst hpq
 clear SA SB SD SZ hd0 h0 h1 hs9 hs ht hj hk
 go_enter Tryz.func114,Tryz.ntmps114
 have KN:=HT.out.k
 have U_e:=Xu (HU.out.kp KN)
 have m1_e:=Xu (Hm1.out.kp KN)
 have m2_e:=Xu (Hm2.out.kp KN)
 have V_e:=Xu (HV.out.kp KN)
 have m3_e:=Xu (Hm3.out.kp KN)
 have m4_e:=Xu (Hm4.out.kp KN)
 clear KN
 obtain ⟨g0,g1,g2,_⟩:=HT.out.ra.cells
 obtain ⟨h0,h1,h2,_⟩:=HT.out.rb.cells
 go_upto_region 5 with fail
 have T_2:=Xu (HT.out.kp (Below.refl _ _).drew)
 have U_2:=Xu (U_e.out.kp (Below.refl _ _).drew)
 have m1_2:=Xu (m1_e.out.kp (Below.refl _ _).drew)
 have m2_2:=Xu (m2_e.out.kp (Below.refl _ _).drew)
 have V_2:=Xu (V_e.out.kp (Below.refl _ _).drew)
 have m3_2:=Xu (m3_e.out.kp (Below.refl _ _).drew)
 have m4_2:=Xu (m4_e.out.kp (Below.refl _ _).drew)
 clear HT U_e m1_e m2_e V_e m3_e m4_e
 go_region_held3 (fun w'=>w'.cell? ⟨w.heap.size,0,none⟩=some (.bool p)∧w'.cell? ⟨w.heap.size,1,none⟩=some (.slice a1 l1 c1)∧w'.cell? ⟨w.heap.size,2,none⟩=some (.slice a2 l2 c2)∧w'.cell? ⟨w.heap.size+1,0,none⟩=some (.bool p)∧w'.cell? ⟨w.heap.size+1,1,none⟩=some (.slice a3 l3 c3)∧w'.cell? ⟨w.heap.size+1,2,none⟩=some (.slice a4 l4 c4))
  (first|(refine ⟨?_,?_,?_,?_,?_,?_⟩<;>assumption)|go_keep)
  (first
   | (go_at_call 128;(with_reducible refine (CDB.out _ m3_2.out m4_2.out).mono ?_);rintro e w3 ⟨vB,rfl,hB,k3⟩;have T_3:=Xu (T_2.out.kp k3);have U_3:=Xu (U_2.out.kp k3);have m1_3:=Xu (m1_2.out.kp k3);have m2_3:=Xu (m2_2.out.kp k3);have V_3:=Xu (V_2.out.kp k3);have m3_3:=Xu (m3_2.out.kp k3);have m4_3:=Xu (m4_2.out.kp k3);clear T_2 U_2 m1_2 m2_2 V_2 m3_2 m4_2;have B_3:=Xu hB;clear hB k3;obtain ⟨g0,g1,g2,_⟩:=T_3.out.ra.cells;obtain ⟨h0,h1,h2,_⟩:=T_3.out.rb.cells)
   | (go_at_call 127;(with_reducible refine (CM1.out _ _ _ m1_3.out B_3.out).mono ?_);rintro e w4 ⟨vC,rfl,hC,k4⟩;have T_4:=Xu (T_3.out.kp k4);have U_4:=Xu (U_3.out.kp k4);have m1_4:=Xu (m1_3.out.kp k4);have m2_4:=Xu (m2_3.out.kp k4);have V_4:=Xu (V_3.out.kp k4);have m3_4:=Xu (m3_3.out.kp k4);have m4_4:=Xu (m4_3.out.kp k4);have B_4:=Xu (B_3.out.kp k4);clear T_3 U_3 m1_3 m2_3 V_3 m3_3 m4_3 B_3;have C_4:=Xu hC;clear hC k4;obtain ⟨g0,g1,g2,_⟩:=T_4.out.ra.cells;obtain ⟨h0,h1,h2,_⟩:=T_4.out.rb.cells)
   | (go_at_call 128;(with_reducible refine (CDA.out _ m1_4.out m2_4.out).mono ?_);rintro e w5 ⟨vA,rfl,hA,k5⟩;have T_5:=Xu (T_4.out.kp k5);have U_5:=Xu (U_4.out.kp k5);have m1_5:=Xu (m1_4.out.kp k5);have m2_5:=Xu (m2_4.out.kp k5);have V_5:=Xu (V_4.out.kp k5);have m3_5:=Xu (m3_4.out.kp k5);have m4_5:=Xu (m4_4.out.kp k5);have B_5:=Xu (B_4.out.kp k5);have C_5:=Xu (C_4.out.kp k5);clear T_4 U_4 m1_4 m2_4 V_4 m3_4 m4_4 B_4 C_4;have A_5:=Xu hA;clear hA k5;obtain ⟨g0,g1,g2,_⟩:=T_5.out.ra.cells;obtain ⟨h0,h1,h2,_⟩:=T_5.out.rb.cells)
   | (go_at_call 127;(with_reducible refine (CM2.out _ _ _ m3_5.out A_5.out).mono ?_);rintro e w6 ⟨vD,rfl,hD,k6⟩;have T_6:=Xu (T_5.out.kp k6);have U_6:=Xu (U_5.out.kp k6);have m1_6:=Xu (m1_5.out.kp k6);have m2_6:=Xu (m2_5.out.kp k6);have V_6:=Xu (V_5.out.kp k6);have m3_6:=Xu (m3_5.out.kp k6);have m4_6:=Xu (m4_5.out.kp k6);have B_6:=Xu (B_5.out.kp k6);have C_6:=Xu (C_5.out.kp k6);have A_6:=Xu (A_5.out.kp k6);clear T_5 U_5 m1_5 m2_5 V_5 m3_5 m4_5 B_5 C_5 A_5;have D_6:=Xu hD;clear hD k6;obtain ⟨g0,g1,g2,_⟩:=T_6.out.ra.cells;obtain ⟨h0,h1,h2,_⟩:=T_6.out.rb.cells))
 go_upto_region 6 with fail
 have T_7:=Xu (T_6.out.kp (Below.refl _ _).drew)
 have U_7:=Xu (U_6.out.kp (Below.refl _ _).drew)
 have m1_7:=Xu (m1_6.out.kp (Below.refl _ _).drew)
 have m2_7:=Xu (m2_6.out.kp (Below.refl _ _).drew)
 have V_7:=Xu (V_6.out.kp (Below.refl _ _).drew)
 have m3_7:=Xu (m3_6.out.kp (Below.refl _ _).drew)
 have m4_7:=Xu (m4_6.out.kp (Below.refl _ _).drew)
 have B_7:=Xu (B_6.out.kp (Below.refl _ _).drew)
 have C_7:=Xu (C_6.out.kp (Below.refl _ _).drew)
 have A_7:=Xu (A_6.out.kp (Below.refl _ _).drew)
 have D_7:=Xu (D_6.out.kp (Below.refl _ _).drew)
 clear T_6 U_6 m1_6 m2_6 V_6 m3_6 m4_6 B_6 C_6 A_6 D_6
 go_region_held3 (fun w'=>w'.cell? ⟨w.heap.size,0,none⟩=some (.bool p)∧w'.cell? ⟨w.heap.size,1,none⟩=some (.slice a1 l1 c1)∧w'.cell? ⟨w.heap.size,2,none⟩=some (.slice a2 l2 c2)∧w'.cell? ⟨w.heap.size+1,0,none⟩=some (.bool p)∧w'.cell? ⟨w.heap.size+1,1,none⟩=some (.slice a3 l3 c3)∧w'.cell? ⟨w.heap.size+1,2,none⟩=some (.slice a4 l4 c4))
  (first|(refine ⟨?_,?_,?_,?_,?_,?_⟩<;>assumption)|go_keep)
  (first
   | (go_at_call 128;(with_reducible refine (CDA.out _ m1_7.out m2_7.out).mono ?_);rintro e w8 ⟨vA2,rfl,hA2,k8⟩;have T_8:=Xu (T_7.out.kp k8);have U_8:=Xu (U_7.out.kp k8);have m1_8:=Xu (m1_7.out.kp k8);have m2_8:=Xu (m2_7.out.kp k8);have V_8:=Xu (V_7.out.kp k8);have m3_8:=Xu (m3_7.out.kp k8);have m4_8:=Xu (m4_7.out.kp k8);have B_8:=Xu (B_7.out.kp k8);have C_8:=Xu (C_7.out.kp k8);have A_8:=Xu (A_7.out.kp k8);have D_8:=Xu (D_7.out.kp k8);clear T_7 U_7 m1_7 m2_7 V_7 m3_7 m4_7 B_7 C_7 A_7 D_7;have A2_8:=Xu hA2;clear hA2 k8;obtain ⟨g0,g1,g2,_⟩:=T_8.out.ra.cells;obtain ⟨h0,h1,h2,_⟩:=T_8.out.rb.cells)
   | (go_at_call 128;(with_reducible refine (CDB.out _ m3_8.out m4_8.out).mono ?_);rintro e w9 ⟨vB2,rfl,hB2,k9⟩;have T_9:=Xu (T_8.out.kp k9);have U_9:=Xu (U_8.out.kp k9);have m1_9:=Xu (m1_8.out.kp k9);have m2_9:=Xu (m2_8.out.kp k9);have V_9:=Xu (V_8.out.kp k9);have m3_9:=Xu (m3_8.out.kp k9);have m4_9:=Xu (m4_8.out.kp k9);have B_9:=Xu (B_8.out.kp k9);have C_9:=Xu (C_8.out.kp k9);have A_9:=Xu (A_8.out.kp k9);have D_9:=Xu (D_8.out.kp k9);have A2_9:=Xu (A2_8.out.kp k9);clear T_8 U_8 m1_8 m2_8 V_8 m3_8 m4_8 B_8 C_8 A_8 D_8 A2_8;have B2_9:=Xu hB2;clear hB2 k9;obtain ⟨g0,g1,g2,_⟩:=T_9.out.ra.cells;obtain ⟨h0,h1,h2,_⟩:=T_9.out.rb.cells)
   | (go_at_call 127;(with_reducible refine (CM3.out _ _ _ A2_9.out B2_9.out).mono ?_);rintro e w10 ⟨vE,rfl,hE,k10⟩;have T_10:=Xu (T_9.out.kp k10);have U_10:=Xu (U_9.out.kp k10);have m1_10:=Xu (m1_9.out.kp k10);have m2_10:=Xu (m2_9.out.kp k10);have V_10:=Xu (V_9.out.kp k10);have m3_10:=Xu (m3_9.out.kp k10);have m4_10:=Xu (m4_9.out.kp k10);have B_10:=Xu (B_9.out.kp k10);have C_10:=Xu (C_9.out.kp k10);have A_10:=Xu (A_9.out.kp k10);have D_10:=Xu (D_9.out.kp k10);have A2_10:=Xu (A2_9.out.kp k10);have B2_10:=Xu (B2_9.out.kp k10);clear T_9 U_9 m1_9 m2_9 V_9 m3_9 m4_9 B_9 C_9 A_9 D_9 A2_9 B2_9;have E_10:=Xu hE;clear hE k10;obtain ⟨g0,g1,g2,_⟩:=T_10.out.ra.cells;obtain ⟨h0,h1,h2,_⟩:=T_10.out.rb.cells))
 go_upto_region 8 with fail
 have n1: ¬(w.heap.size+1+1=w.heap.size):=by omega
 have n2: ¬(w.heap.size=w.heap.size+1+1):=by omega
 have T_11:=Xu (T_10.out.kp (Below.refl _ _).drew)
 have U_11:=Xu (U_10.out.kp (Below.refl _ _).drew)
 have m1_11:=Xu (m1_10.out.kp (Below.refl _ _).drew)
 have m2_11:=Xu (m2_10.out.kp (Below.refl _ _).drew)
 have V_11:=Xu (V_10.out.kp (Below.refl _ _).drew)
 have m3_11:=Xu (m3_10.out.kp (Below.refl _ _).drew)
 have m4_11:=Xu (m4_10.out.kp (Below.refl _ _).drew)
 have B_11:=Xu (B_10.out.kp (Below.refl _ _).drew)
 have C_11:=Xu (C_10.out.kp (Below.refl _ _).drew)
 have A_11:=Xu (A_10.out.kp (Below.refl _ _).drew)
 have D_11:=Xu (D_10.out.kp (Below.refl _ _).drew)
 have A2_11:=Xu (A2_10.out.kp (Below.refl _ _).drew)
 have B2_11:=Xu (B2_10.out.kp (Below.refl _ _).drew)
 have E_11:=Xu (E_10.out.kp (Below.refl _ _).drew)
 clear T_10 U_10 m1_10 m2_10 V_10 m3_10 m4_10 B_10 C_10 A_10 D_10 A2_10 B2_10 E_10
 go_region_held3 (fun w'=>w'.cell? ⟨w.heap.size,0,none⟩=some (.bool p)∧w'.cell? ⟨w.heap.size,1,none⟩=some (.slice a1 l1 c1)∧w'.cell? ⟨w.heap.size,2,none⟩=some (.slice a2 l2 c2)∧w'.cell? ⟨w.heap.size+1,0,none⟩=some (.bool p)∧w'.cell? ⟨w.heap.size+1,1,none⟩=some (.slice a3 l3 c3)∧w'.cell? ⟨w.heap.size+1,2,none⟩=some (.slice a4 l4 c4))
  (first|(refine ⟨?_,?_,?_,?_,?_,?_⟩<;>assumption)|go_keep)
  (first
   | (go_at_call 183;(with_reducible refine (CZ.out _ _ _ C_11.out D_11.out).mono ?_);rintro e w12 ⟨vG,rfl,hG,k12⟩;have T_12:=Xu (T_11.out.kp k12);have U_12:=Xu (U_11.out.kp k12);have m1_12:=Xu (m1_11.out.kp k12);have m2_12:=Xu (m2_11.out.kp k12);have V_12:=Xu (V_11.out.kp k12);have m3_12:=Xu (m3_11.out.kp k12);have m4_12:=Xu (m4_11.out.kp k12);have B_12:=Xu (B_11.out.kp k12);have C_12:=Xu (C_11.out.kp k12);have A_12:=Xu (A_11.out.kp k12);have D_12:=Xu (D_11.out.kp k12);have A2_12:=Xu (A2_11.out.kp k12);have B2_12:=Xu (B2_11.out.kp k12);have E_12:=Xu (E_11.out.kp k12);clear T_11 U_11 m1_11 m2_11 V_11 m3_11 m4_11 B_11 C_11 A_11 D_11 A2_11 B2_11 E_11;have G_12:=Xu hG;clear hG k12;obtain ⟨g0,g1,g2,_⟩:=T_12.out.ra.cells;obtain ⟨h0,h1,h2,_⟩:=T_12.out.rb.cells)
   | (go_at_call 126;(with_reducible refine (CR.out _ _ _ _ G_12.out E_12.out).mono ?_);rintro e w13 ⟨vr,rfl,hvr,k13⟩;have T_13:=Xu (T_12.out.kp k13);have U_13:=Xu (U_12.out.kp k13);have m1_13:=Xu (m1_12.out.kp k13);have m2_13:=Xu (m2_12.out.kp k13);have V_13:=Xu (V_12.out.kp k13);have m3_13:=Xu (m3_12.out.kp k13);have m4_13:=Xu (m4_12.out.kp k13);have B_13:=Xu (B_12.out.kp k13);have C_13:=Xu (C_12.out.kp k13);have A_13:=Xu (A_12.out.kp k13);have D_13:=Xu (D_12.out.kp k13);have A2_13:=Xu (A2_12.out.kp k13);have B2_13:=Xu (B2_12.out.kp k13);have E_13:=Xu (E_12.out.kp k13);have G_13:=Xu (G_12.out.kp k13);clear T_12 U_12 m1_12 m2_12 V_12 m3_12 m4_12 B_12 C_12 A_12 D_12 A2_12 B2_12 E_12 G_12;obtain ⟨sgn,q1,r1,s1,q2,r2,s2,rfl⟩:=hvr.lit;obtain ⟨⟨e0,e1,e2,f0,f1,f2⟩,HPP,HV,HKF⟩:=BR T_13.out.rr T_13.out.k (Below.refl _ _) hvr (by omega);clear hvr;clear k13;obtain ⟨g0,g1,g2,_⟩:=T_13.out.ra.cells;obtain ⟨h0,h1,h2,_⟩:=T_13.out.rb.cells))
 obtain ⟨k0,k1,k2⟩:=HPP.out
 go_wp2
 exact bodyPost_ret (v:= .agg #[.bool sgn,.slice q1 r1 s1,.slice q2 r2 s2]) (by simp [results,Tryz.results114,go_sem,k0,k1,k2]) rfl ⟨_,rfl,HV.out,HKF.out⟩
set_option maxRecDepth 20000 in
theorem Oi {w:World} {u:Value} {x:Rat} (hu:Ax w u x) {v:Value} {y:Rat} (hv:Ax w v y) {j k:Nat} (hs:RSz j x) (ht:RSz k y) (hj:j≤500000000) (hk:k≤500000000) (h0:x≠0) (h1:y≠0) (hs9:decide (y.num<0)=!decide (x.num<0)) (hlt:x.num.natAbs*y.den<y.num.natAbs*x.den):
  Calls Tryz.prog 114 #[u,v] w fun e w'=> ∃r,e= .returned r∧Ax w' r (x+y)∧Kp w w':=by
 have hres:AH (decide (y.num<0)) (y.num.natAbs*x.den-x.num.natAbs*y.den) (x.den*y.den)=x+y:=by
  have h:=FK (decide (y.num<0)) (n:=y.num.natAbs) (m:=x.num.natAbs) y.den_nz x.den_nz (Nat.le_of_lt hlt)
  rw [Nat.mul_comm x.den,←h,BJ,show (!decide (y.num<0))=decide (x.num<0) by rw [hs9,Bool.not_not],BJ,Rat.add_comm]
 rw [←hres]
 clear hres
 have hd0:x.den*y.den≠0:=Nat.mul_ne_zero x.den_nz y.den_nz
 have SA:Sz (j+k) (x.num.natAbs*y.den):=hs.1.mul ht.2
 have SB:Sz (k+j) (y.num.natAbs*x.den):=ht.1.mul hs.2
 have SD:Sz (j+k) (x.den*y.den):=hs.2.mul ht.2
 have SZ:Sz (j+k) (y.num.natAbs*x.den-x.num.natAbs*y.den):=(by rw [Nat.add_comm k j] at SB;exact SB.le (Nat.sub_le _ _))
 obtain ⟨a1,l1,c1,a2,l2,c2,rfl,m1,m2⟩:=hu.parts
 obtain ⟨a3,l3,c3,a4,l4,c4,rfl,m3,m4⟩:=hv.parts
 have HT:=Xu (Two.new w (.bool (decide (x.num<0))) (.slice a1 l1 c1) (.slice a2 l2 c2) (.bool (decide (y.num<0))) (.slice a3 l3 c3) (.slice a4 l4 c4))
 have HU:=Xu hu
 have Hm1:=Xu m1
 have Hm2:=Xu m2
 have HV:=Xu hv
 have Hm3:=Xu m3
 have Hm4:=Xu m4
 have CDA:=Xu (fun w' (a:M w' (.slice a1 l1 c1) x.num.natAbs) (b:M w' (.slice a2 l2 c2) (A0 x))=>EL (s:=decide (x.num<0)) a b)
 have CDB:=Xu (fun w' (a:M w' (.slice a3 l3 c3) y.num.natAbs) (b:M w' (.slice a4 l4 c4) (A0 y))=>EL (s:=decide (y.num<0)) a b)
 have CM1:=Xu (fun w' va vb (a:M w' va (x.num.natAbs)) (b:M w' vb (y.den))=>Ci a b hs.1 ht.2 (by omega) (by omega))
 have CM2:=Xu (fun w' va vb (a:M w' va (y.num.natAbs)) (b:M w' vb (x.den))=>Ci a b ht.1 hs.2 (by omega) (by omega))
 have CM3:=Xu (fun w' va vb (a:M w' va (x.den)) (b:M w' vb (y.den))=>Ci a b hs.2 ht.2 (by omega) (by omega))
 have CC:=Xu (fun w' va vb (a:M w' va (x.num.natAbs*y.den)) (b:M w' vb (y.num.natAbs*x.den))=>Cu va vb _ _ w' a b)
 have CZ:=Xu (fun w' va vb (a:M w' va (y.num.natAbs*x.den)) (b:M w' vb (x.num.natAbs*y.den))=>Mq va vb _ _ w' a b (by unfold Sz at SB;omega) (Nat.le_of_lt hlt))
 have CR:=Xu (fun w' s va vb (a:M w' va (y.num.natAbs*x.den-x.num.natAbs*y.den)) (b:M w' vb (x.den*y.den))=>FH (neg:=s) a b SZ SD (by omega) (by omega) hd0)
 obtain ⟨p,hp⟩: ∃b,b=decide (x.num<0):=⟨_,rfl⟩
 try rw [←hp] at HT
 try rw [←hp] at HU
 try rw [←hp] at Hm1
 try rw [←hp] at Hm2
 try rw [←hp] at HV
 try rw [←hp] at Hm3
 try rw [←hp] at Hm4
 try rw [←hp] at CDA
 try rw [←hp] at CDB
 try rw [←hp] at CM1
 try rw [←hp] at CM2
 try rw [←hp] at CM3
 try rw [←hp] at CC
 try rw [←hp] at CZ
 try rw [←hp] at CR
 try rw [←hp]
 have HPp:=Xu hp
 obtain ⟨q,hq⟩: ∃b,b=decide (y.num<0):=⟨_,rfl⟩
 try rw [←hq] at HT
 try rw [←hq] at HU
 try rw [←hq] at Hm1
 try rw [←hq] at Hm2
 try rw [←hq] at HV
 try rw [←hq] at Hm3
 try rw [←hq] at Hm4
 try rw [←hq] at CDA
 try rw [←hq] at CDB
 try rw [←hq] at CM1
 try rw [←hq] at CM2
 try rw [←hq] at CM3
 try rw [←hq] at CC
 try rw [←hq] at CZ
 try rw [←hq] at CR
 try rw [←hq]
 have HPq:=Xu hq
 clear hu m1 m2 hp hv m3 m4 hq
 have hl1:0<l1:=by have:=Cp Hm1.out;have:x.num.natAbs≠0:=fun e=>h0 (Rat.num_eq_zero.1 (Int.natAbs_eq_zero.1 e));omega
 have hl1z:((l1:Int)==0)=false:=beq_eq_false_iff_ne.2 (by omega)
 have hl3:0<l3:=by have:=Cp Hm3.out;have:y.num.natAbs≠0:=fun e=>h1 (Rat.num_eq_zero.1 (Int.natAbs_eq_zero.1 e));omega
 have hl3z:((l3:Int)==0)=false:=beq_eq_false_iff_ne.2 (by omega)
 have hpq:q=!p:=by rw [HPp.out,HPq.out,hs9]
 subst hpq
 have hpn:(p==!p)=false:=by cases p<;>rfl
 have hpn2:(p=!p)=False:=by cases p<;>simp
 obtain ⟨cc,hcc⟩: ∃c,c=AT (x.num.natAbs*y.den) (y.num.natAbs*x.den):=⟨_,rfl⟩
 rw [←hcc] at CC
 have hcd:decide (cc<0)=true:=by rw [hcc];exact decide_eq_true (by rw [BZ hlt];decide)
 clear hcc hlt
 clear SA SB SD SZ hd0 h0 h1 hs9 hs ht hj hk
 go_enter Tryz.func114,Tryz.ntmps114
 have KN:=HT.out.k
 have U_e:=Xu (HU.out.kp KN)
 have m1_e:=Xu (Hm1.out.kp KN)
 have m2_e:=Xu (Hm2.out.kp KN)
 have V_e:=Xu (HV.out.kp KN)
 have m3_e:=Xu (Hm3.out.kp KN)
 have m4_e:=Xu (Hm4.out.kp KN)
 clear KN
 obtain ⟨g0,g1,g2,_⟩:=HT.out.ra.cells
 obtain ⟨h0,h1,h2,_⟩:=HT.out.rb.cells
 go_upto_region 5 with fail
 have T_2:=Xu (HT.out.kp (Below.refl _ _).drew)
 have U_2:=Xu (U_e.out.kp (Below.refl _ _).drew)
 have m1_2:=Xu (m1_e.out.kp (Below.refl _ _).drew)
 have m2_2:=Xu (m2_e.out.kp (Below.refl _ _).drew)
 have V_2:=Xu (V_e.out.kp (Below.refl _ _).drew)
 have m3_2:=Xu (m3_e.out.kp (Below.refl _ _).drew)
 have m4_2:=Xu (m4_e.out.kp (Below.refl _ _).drew)
 clear HT U_e m1_e m2_e V_e m3_e m4_e
 go_region_held3 (fun w'=>w'.cell? ⟨w.heap.size,0,none⟩=some (.bool p)∧w'.cell? ⟨w.heap.size,1,none⟩=some (.slice a1 l1 c1)∧w'.cell? ⟨w.heap.size,2,none⟩=some (.slice a2 l2 c2)∧w'.cell? ⟨w.heap.size+1,0,none⟩=some (.bool (!p))∧w'.cell? ⟨w.heap.size+1,1,none⟩=some (.slice a3 l3 c3)∧w'.cell? ⟨w.heap.size+1,2,none⟩=some (.slice a4 l4 c4))
  (first|(refine ⟨?_,?_,?_,?_,?_,?_⟩<;>assumption)|go_keep)
  (first
   | (go_at_call 128;(with_reducible refine (CDB.out _ m3_2.out m4_2.out).mono ?_);rintro e w3 ⟨vB,rfl,hB,k3⟩;have T_3:=Xu (T_2.out.kp k3);have U_3:=Xu (U_2.out.kp k3);have m1_3:=Xu (m1_2.out.kp k3);have m2_3:=Xu (m2_2.out.kp k3);have V_3:=Xu (V_2.out.kp k3);have m3_3:=Xu (m3_2.out.kp k3);have m4_3:=Xu (m4_2.out.kp k3);clear T_2 U_2 m1_2 m2_2 V_2 m3_2 m4_2;have B_3:=Xu hB;clear hB k3;obtain ⟨g0,g1,g2,_⟩:=T_3.out.ra.cells;obtain ⟨h0,h1,h2,_⟩:=T_3.out.rb.cells)
   | (go_at_call 127;(with_reducible refine (CM1.out _ _ _ m1_3.out B_3.out).mono ?_);rintro e w4 ⟨vC,rfl,hC,k4⟩;have T_4:=Xu (T_3.out.kp k4);have U_4:=Xu (U_3.out.kp k4);have m1_4:=Xu (m1_3.out.kp k4);have m2_4:=Xu (m2_3.out.kp k4);have V_4:=Xu (V_3.out.kp k4);have m3_4:=Xu (m3_3.out.kp k4);have m4_4:=Xu (m4_3.out.kp k4);have B_4:=Xu (B_3.out.kp k4);clear T_3 U_3 m1_3 m2_3 V_3 m3_3 m4_3 B_3;have C_4:=Xu hC;clear hC k4;obtain ⟨g0,g1,g2,_⟩:=T_4.out.ra.cells;obtain ⟨h0,h1,h2,_⟩:=T_4.out.rb.cells)
   | (go_at_call 128;(with_reducible refine (CDA.out _ m1_4.out m2_4.out).mono ?_);rintro e w5 ⟨vA,rfl,hA,k5⟩;have T_5:=Xu (T_4.out.kp k5);have U_5:=Xu (U_4.out.kp k5);have m1_5:=Xu (m1_4.out.kp k5);have m2_5:=Xu (m2_4.out.kp k5);have V_5:=Xu (V_4.out.kp k5);have m3_5:=Xu (m3_4.out.kp k5);have m4_5:=Xu (m4_4.out.kp k5);have B_5:=Xu (B_4.out.kp k5);have C_5:=Xu (C_4.out.kp k5);clear T_4 U_4 m1_4 m2_4 V_4 m3_4 m4_4 B_4 C_4;have A_5:=Xu hA;clear hA k5;obtain ⟨g0,g1,g2,_⟩:=T_5.out.ra.cells;obtain ⟨h0,h1,h2,_⟩:=T_5.out.rb.cells)
   | (go_at_call 127;(with_reducible refine (CM2.out _ _ _ m3_5.out A_5.out).mono ?_);rintro e w6 ⟨vD,rfl,hD,k6⟩;have T_6:=Xu (T_5.out.kp k6);have U_6:=Xu (U_5.out.kp k6);have m1_6:=Xu (m1_5.out.kp k6);have m2_6:=Xu (m2_5.out.kp k6);have V_6:=Xu (V_5.out.kp k6);have m3_6:=Xu (m3_5.out.kp k6);have m4_6:=Xu (m4_5.out.kp k6);have B_6:=Xu (B_5.out.kp k6);have C_6:=Xu (C_5.out.kp k6);have A_6:=Xu (A_5.out.kp k6);clear T_5 U_5 m1_5 m2_5 V_5 m3_5 m4_5 B_5 C_5 A_5;have D_6:=Xu hD;clear hD k6;obtain ⟨g0,g1,g2,_⟩:=T_6.out.ra.cells;obtain ⟨h0,h1,h2,_⟩:=T_6.out.rb.cells))
 go_upto_region 6 with fail
 have T_7:=Xu (T_6.out.kp (Below.refl _ _).drew)
 have U_7:=Xu (U_6.out.kp (Below.refl _ _).drew)
 have m1_7:=Xu (m1_6.out.kp (Below.refl _ _).drew)
 have m2_7:=Xu (m2_6.out.kp (Below.refl _ _).drew)
 have V_7:=Xu (V_6.out.kp (Below.refl _ _).drew)
 have m3_7:=Xu (m3_6.out.kp (Below.refl _ _).drew)
 have m4_7:=Xu (m4_6.out.kp (Below.refl _ _).drew)
 have B_7:=Xu (B_6.out.kp (Below.refl _ _).drew)
 have C_7:=Xu (C_6.out.kp (Below.refl _ _).drew)
 have A_7:=Xu (A_6.out.kp (Below.refl _ _).drew)
 have D_7:=Xu (D_6.out.kp (Below.refl _ _).drew)
 clear T_6 U_6 m1_6 m2_6 V_6 m3_6 m4_6 B_6 C_6 A_6 D_6
 go_region_held3 (fun w'=>w'.cell? ⟨w.heap.size,0,none⟩=some (.bool p)∧w'.cell? ⟨w.heap.size,1,none⟩=some (.slice a1 l1 c1)∧w'.cell? ⟨w.heap.size,2,none⟩=some (.slice a2 l2 c2)∧w'.cell? ⟨w.heap.size+1,0,none⟩=some (.bool (!p))∧w'.cell? ⟨w.heap.size+1,1,none⟩=some (.slice a3 l3 c3)∧w'.cell? ⟨w.heap.size+1,2,none⟩=some (.slice a4 l4 c4))
  (first|(refine ⟨?_,?_,?_,?_,?_,?_⟩<;>assumption)|go_keep)
  (first
   | (go_at_call 128;(with_reducible refine (CDA.out _ m1_7.out m2_7.out).mono ?_);rintro e w8 ⟨vA2,rfl,hA2,k8⟩;have T_8:=Xu (T_7.out.kp k8);have U_8:=Xu (U_7.out.kp k8);have m1_8:=Xu (m1_7.out.kp k8);have m2_8:=Xu (m2_7.out.kp k8);have V_8:=Xu (V_7.out.kp k8);have m3_8:=Xu (m3_7.out.kp k8);have m4_8:=Xu (m4_7.out.kp k8);have B_8:=Xu (B_7.out.kp k8);have C_8:=Xu (C_7.out.kp k8);have A_8:=Xu (A_7.out.kp k8);have D_8:=Xu (D_7.out.kp k8);clear T_7 U_7 m1_7 m2_7 V_7 m3_7 m4_7 B_7 C_7 A_7 D_7;have A2_8:=Xu hA2;clear hA2 k8;obtain ⟨g0,g1,g2,_⟩:=T_8.out.ra.cells;obtain ⟨h0,h1,h2,_⟩:=T_8.out.rb.cells)
   | (go_at_call 128;(with_reducible refine (CDB.out _ m3_8.out m4_8.out).mono ?_);rintro e w9 ⟨vB2,rfl,hB2,k9⟩;have T_9:=Xu (T_8.out.kp k9);have U_9:=Xu (U_8.out.kp k9);have m1_9:=Xu (m1_8.out.kp k9);have m2_9:=Xu (m2_8.out.kp k9);have V_9:=Xu (V_8.out.kp k9);have m3_9:=Xu (m3_8.out.kp k9);have m4_9:=Xu (m4_8.out.kp k9);have B_9:=Xu (B_8.out.kp k9);have C_9:=Xu (C_8.out.kp k9);have A_9:=Xu (A_8.out.kp k9);have D_9:=Xu (D_8.out.kp k9);have A2_9:=Xu (A2_8.out.kp k9);clear T_8 U_8 m1_8 m2_8 V_8 m3_8 m4_8 B_8 C_8 A_8 D_8 A2_8;have B2_9:=Xu hB2;clear hB2 k9;obtain ⟨g0,g1,g2,_⟩:=T_9.out.ra.cells;obtain ⟨h0,h1,h2,_⟩:=T_9.out.rb.cells)
   | (go_at_call 127;(with_reducible refine (CM3.out _ _ _ A2_9.out B2_9.out).mono ?_);rintro e w10 ⟨vE,rfl,hE,k10⟩;have T_10:=Xu (T_9.out.kp k10);have U_10:=Xu (U_9.out.kp k10);have m1_10:=Xu (m1_9.out.kp k10);have m2_10:=Xu (m2_9.out.kp k10);have V_10:=Xu (V_9.out.kp k10);have m3_10:=Xu (m3_9.out.kp k10);have m4_10:=Xu (m4_9.out.kp k10);have B_10:=Xu (B_9.out.kp k10);have C_10:=Xu (C_9.out.kp k10);have A_10:=Xu (A_9.out.kp k10);have D_10:=Xu (D_9.out.kp k10);have A2_10:=Xu (A2_9.out.kp k10);have B2_10:=Xu (B2_9.out.kp k10);clear T_9 U_9 m1_9 m2_9 V_9 m3_9 m4_9 B_9 C_9 A_9 D_9 A2_9 B2_9;have E_10:=Xu hE;clear hE k10;obtain ⟨g0,g1,g2,_⟩:=T_10.out.ra.cells;obtain ⟨h0,h1,h2,_⟩:=T_10.out.rb.cells))
 go_wp2_with (go_at_call 88;(with_reducible refine (CC.out _ _ _ C_10.out D_10.out).mono ?_);rintro e w11 ⟨rfl,k11⟩;refine Hid.out ?_)
 refine Xu ?_
 have T_11:=Xu (T_10.out.kp k11)
 have U_11:=Xu (U_10.out.kp k11)
 have m1_11:=Xu (m1_10.out.kp k11)
 have m2_11:=Xu (m2_10.out.kp k11)
 have V_11:=Xu (V_10.out.kp k11)
 have m3_11:=Xu (m3_10.out.kp k11)
 have m4_11:=Xu (m4_10.out.kp k11)
 have B_11:=Xu (B_10.out.kp k11)
 have C_11:=Xu (C_10.out.kp k11)
 have A_11:=Xu (A_10.out.kp k11)
 have D_11:=Xu (D_10.out.kp k11)
 have A2_11:=Xu (A2_10.out.kp k11)
 have B2_11:=Xu (B2_10.out.kp k11)
 have E_11:=Xu (E_10.out.kp k11)
 clear T_10 U_10 m1_10 m2_10 V_10 m3_10 m4_10 B_10 C_10 A_10 D_10 A2_10 B2_10 E_10
 clear k11
 obtain ⟨g0,g1,g2,_⟩:=T_11.out.ra.cells
 obtain ⟨h0,h1,h2,_⟩:=T_11.out.rb.cells
 go_wp2_with (go_at_call 184;(with_reducible refine (CZ.out _ _ _ D_11.out C_11.out).mono ?_);rintro e w12 ⟨vG,rfl,hG,k12⟩;refine Hid.out ?_)
 refine Xu ?_
 have T_12:=Xu (T_11.out.kp k12)
 have U_12:=Xu (U_11.out.kp k12)
 have m1_12:=Xu (m1_11.out.kp k12)
 have m2_12:=Xu (m2_11.out.kp k12)
 have V_12:=Xu (V_11.out.kp k12)
 have m3_12:=Xu (m3_11.out.kp k12)
 have m4_12:=Xu (m4_11.out.kp k12)
 have B_12:=Xu (B_11.out.kp k12)
 have C_12:=Xu (C_11.out.kp k12)
 have A_12:=Xu (A_11.out.kp k12)
 have D_12:=Xu (D_11.out.kp k12)
 have A2_12:=Xu (A2_11.out.kp k12)
 have B2_12:=Xu (B2_11.out.kp k12)
 have E_12:=Xu (E_11.out.kp k12)
 clear T_11 U_11 m1_11 m2_11 V_11 m3_11 m4_11 B_11 C_11 A_11 D_11 A2_11 B2_11 E_11
 have G_12:=Xu hG
 clear hG k12
 obtain ⟨g0,g1,g2,_⟩:=T_12.out.ra.cells
 obtain ⟨h0,h1,h2,_⟩:=T_12.out.rb.cells
 go_wp2_with (go_at_call 126;(with_reducible refine (CR.out _ _ _ _ G_12.out E_12.out).mono ?_);rintro e w13 ⟨vr,rfl,hvr,k13⟩;refine Hid.out ?_)
 refine Xu ?_
 have T_13:=Xu (T_12.out.kp k13)
 have U_13:=Xu (U_12.out.kp k13)
 have m1_13:=Xu (m1_12.out.kp k13)
 have m2_13:=Xu (m2_12.out.kp k13)
 have V_13:=Xu (V_12.out.kp k13)
 have m3_13:=Xu (m3_12.out.kp k13)
 have m4_13:=Xu (m4_12.out.kp k13)
 have B_13:=Xu (B_12.out.kp k13)
 have C_13:=Xu (C_12.out.kp k13)
 have A_13:=Xu (A_12.out.kp k13)
 have D_13:=Xu (D_12.out.kp k13)
 have A2_13:=Xu (A2_12.out.kp k13)
 have B2_13:=Xu (B2_12.out.kp k13)
 have E_13:=Xu (E_12.out.kp k13)
 have G_13:=Xu (G_12.out.kp k13)
 clear T_12 U_12 m1_12 m2_12 V_12 m3_12 m4_12 B_12 C_12 A_12 D_12 A2_12 B2_12 E_12 G_12
 clear k13
 obtain ⟨sgn,q1,r1,s1,q2,r2,s2,rfl⟩:=hvr.lit
 obtain ⟨⟨e0,e1,e2,f0,f1,f2⟩,HPP,HV,HKF⟩:=BR T_13.out.rr T_13.out.k (Below.refl _ _) hvr (by omega)
 clear hvr
 obtain ⟨k0,k1,k2⟩:=HPP.out
 go_wp2
 exact bodyPost_ret (v:= .agg #[.bool sgn,.slice q1 r1 s1,.slice q2 r2 s2]) (by simp [results,Tryz.results114,go_sem,k0,k1,k2]) rfl ⟨_,rfl,HV.out,HKF.out⟩
set_option maxRecDepth 20000 in
theorem Oh {w:World} {u:Value} {x:Rat} (hu:Ax w u x) {v:Value} {y:Rat} (hv:Ax w v y) {j k:Nat} (hs:RSz j x) (ht:RSz k y) (hj:j≤500000000) (hk:k≤500000000) (h0:x≠0) (h1:y≠0) (hs9:decide (y.num<0)=!decide (x.num<0)) (hlt: ¬x.num.natAbs*y.den<y.num.natAbs*x.den):
  Calls Tryz.prog 114 #[u,v] w fun e w'=> ∃r,e= .returned r∧Ax w' r (x+y)∧Kp w w':=by
 have hres:AH (decide (x.num<0)) (x.num.natAbs*y.den-y.num.natAbs*x.den) (x.den*y.den)=x+y:=by
  have h:=FK (decide (x.num<0)) (n:=x.num.natAbs) (m:=y.num.natAbs) x.den_nz y.den_nz (Nat.not_lt.1 hlt)
  rw [←h,BJ,←hs9,BJ]
 rw [←hres]
 clear hres
 have hd0:x.den*y.den≠0:=Nat.mul_ne_zero x.den_nz y.den_nz
 have SA:Sz (j+k) (x.num.natAbs*y.den):=hs.1.mul ht.2
 have SB:Sz (k+j) (y.num.natAbs*x.den):=ht.1.mul hs.2
 have SD:Sz (j+k) (x.den*y.den):=hs.2.mul ht.2
 have SZ:Sz (j+k) (x.num.natAbs*y.den-y.num.natAbs*x.den):=SA.le (Nat.sub_le _ _)
 obtain ⟨a1,l1,c1,a2,l2,c2,rfl,m1,m2⟩:=hu.parts
 obtain ⟨a3,l3,c3,a4,l4,c4,rfl,m3,m4⟩:=hv.parts
 have HT:=Xu (Two.new w (.bool (decide (x.num<0))) (.slice a1 l1 c1) (.slice a2 l2 c2) (.bool (decide (y.num<0))) (.slice a3 l3 c3) (.slice a4 l4 c4))
 have HU:=Xu hu
 have Hm1:=Xu m1
 have Hm2:=Xu m2
 have HV:=Xu hv
 have Hm3:=Xu m3
 have Hm4:=Xu m4
 have CDA:=Xu (fun w' (a:M w' (.slice a1 l1 c1) x.num.natAbs) (b:M w' (.slice a2 l2 c2) (A0 x))=>EL (s:=decide (x.num<0)) a b)
 have CDB:=Xu (fun w' (a:M w' (.slice a3 l3 c3) y.num.natAbs) (b:M w' (.slice a4 l4 c4) (A0 y))=>EL (s:=decide (y.num<0)) a b)
 have CM1:=Xu (fun w' va vb (a:M w' va (x.num.natAbs)) (b:M w' vb (y.den))=>Ci a b hs.1 ht.2 (by omega) (by omega))
 have CM2:=Xu (fun w' va vb (a:M w' va (y.num.natAbs)) (b:M w' vb (x.den))=>Ci a b ht.1 hs.2 (by omega) (by omega))
 have CM3:=Xu (fun w' va vb (a:M w' va (x.den)) (b:M w' vb (y.den))=>Ci a b hs.2 ht.2 (by omega) (by omega))
 have CC:=Xu (fun w' va vb (a:M w' va (x.num.natAbs*y.den)) (b:M w' vb (y.num.natAbs*x.den))=>Cu va vb _ _ w' a b)
 have CZ:=Xu (fun w' va vb (a:M w' va (x.num.natAbs*y.den)) (b:M w' vb (y.num.natAbs*x.den))=>Mq va vb _ _ w' a b (by unfold Sz at SA;omega) (Nat.not_lt.1 hlt))
 have CR:=Xu (fun w' s va vb (a:M w' va (x.num.natAbs*y.den-y.num.natAbs*x.den)) (b:M w' vb (x.den*y.den))=>FH (neg:=s) a b SZ SD (by omega) (by omega) hd0)
 obtain ⟨p,hp⟩: ∃b,b=decide (x.num<0):=⟨_,rfl⟩
 try rw [←hp] at HT
 try rw [←hp] at HU
 try rw [←hp] at Hm1
 try rw [←hp] at Hm2
 try rw [←hp] at HV
 try rw [←hp] at Hm3
 try rw [←hp] at Hm4
 try rw [←hp] at CDA
 try rw [←hp] at CDB
 try rw [←hp] at CM1
 try rw [←hp] at CM2
 try rw [←hp] at CM3
 try rw [←hp] at CC
 try rw [←hp] at CZ
 try rw [←hp] at CR
 try rw [←hp]
 have HPp:=Xu hp
 obtain ⟨q,hq⟩: ∃b,b=decide (y.num<0):=⟨_,rfl⟩
 try rw [←hq] at HT
 try rw [←hq] at HU
 try rw [←hq] at Hm1
 try rw [←hq] at Hm2
 try rw [←hq] at HV
 try rw [←hq] at Hm3
 try rw [←hq] at Hm4
 try rw [←hq] at CDA
 try rw [←hq] at CDB
 try rw [←hq] at CM1
 try rw [←hq] at CM2
 try rw [←hq] at CM3
 try rw [←hq] at CC
 try rw [←hq] at CZ
 try rw [←hq] at CR
 try rw [←hq]
 have HPq:=Xu hq
 clear hu m1 m2 hp hv m3 m4 hq
 have hl1:0<l1:=by have:=Cp Hm1.out;have:x.num.natAbs≠0:=fun e=>h0 (Rat.num_eq_zero.1 (Int.natAbs_eq_zero.1 e));omega
 have hl1z:((l1:Int)==0)=false:=beq_eq_false_iff_ne.2 (by omega)
 have hl3:0<l3:=by have:=Cp Hm3.out;have:y.num.natAbs≠0:=fun e=>h1 (Rat.num_eq_zero.1 (Int.natAbs_eq_zero.1 e));omega
 have hl3z:((l3:Int)==0)=false:=beq_eq_false_iff_ne.2 (by omega)
 have hpq:q=!p:=by rw [HPp.out,HPq.out,hs9]
 subst hpq
 have hpn:(p==!p)=false:=by cases p<;>rfl
 have hpn2:(p=!p)=False:=by cases p<;>simp
 obtain ⟨cc,hcc⟩: ∃c,c=AT (x.num.natAbs*y.den) (y.num.natAbs*x.den):=⟨_,rfl⟩
 rw [←hcc] at CC
 have hcd:decide (cc<0)=false:=by rw [hcc];exact decide_eq_false (by unfold AT;split<;>first|omega|(split<;>omega))
 clear hcc hlt
 clear SA SB SD SZ hd0 h0 h1 hs9 hs ht hj hk
 go_enter Tryz.func114,Tryz.ntmps114
 have KN:=HT.out.k
 have U_e:=Xu (HU.out.kp KN)
 have m1_e:=Xu (Hm1.out.kp KN)
 have m2_e:=Xu (Hm2.out.kp KN)
 have V_e:=Xu (HV.out.kp KN)
 have m3_e:=Xu (Hm3.out.kp KN)
 have m4_e:=Xu (Hm4.out.kp KN)
 clear KN
 obtain ⟨g0,g1,g2,_⟩:=HT.out.ra.cells
 obtain ⟨h0,h1,h2,_⟩:=HT.out.rb.cells
 go_upto_region 5 with fail
 have T_2:=Xu (HT.out.kp (Below.refl _ _).drew)
 have U_2:=Xu (U_e.out.kp (Below.refl _ _).drew)
 have m1_2:=Xu (m1_e.out.kp (Below.refl _ _).drew)
 have m2_2:=Xu (m2_e.out.kp (Below.refl _ _).drew)
 have V_2:=Xu (V_e.out.kp (Below.refl _ _).drew)
 have m3_2:=Xu (m3_e.out.kp (Below.refl _ _).drew)
 have m4_2:=Xu (m4_e.out.kp (Below.refl _ _).drew)
 clear HT U_e m1_e m2_e V_e m3_e m4_e
 go_region_held3 (fun w'=>w'.cell? ⟨w.heap.size,0,none⟩=some (.bool p)∧w'.cell? ⟨w.heap.size,1,none⟩=some (.slice a1 l1 c1)∧w'.cell? ⟨w.heap.size,2,none⟩=some (.slice a2 l2 c2)∧w'.cell? ⟨w.heap.size+1,0,none⟩=some (.bool (!p))∧w'.cell? ⟨w.heap.size+1,1,none⟩=some (.slice a3 l3 c3)∧w'.cell? ⟨w.heap.size+1,2,none⟩=some (.slice a4 l4 c4))
  (first|(refine ⟨?_,?_,?_,?_,?_,?_⟩<;>assumption)|go_keep)
  (first
   | (go_at_call 128;(with_reducible refine (CDB.out _ m3_2.out m4_2.out).mono ?_);rintro e w3 ⟨vB,rfl,hB,k3⟩;have T_3:=Xu (T_2.out.kp k3);have U_3:=Xu (U_2.out.kp k3);have m1_3:=Xu (m1_2.out.kp k3);have m2_3:=Xu (m2_2.out.kp k3);have V_3:=Xu (V_2.out.kp k3);have m3_3:=Xu (m3_2.out.kp k3);have m4_3:=Xu (m4_2.out.kp k3);clear T_2 U_2 m1_2 m2_2 V_2 m3_2 m4_2;have B_3:=Xu hB;clear hB k3;obtain ⟨g0,g1,g2,_⟩:=T_3.out.ra.cells;obtain ⟨h0,h1,h2,_⟩:=T_3.out.rb.cells)
   | (go_at_call 127;(with_reducible refine (CM1.out _ _ _ m1_3.out B_3.out).mono ?_);rintro e w4 ⟨vC,rfl,hC,k4⟩;have T_4:=Xu (T_3.out.kp k4);have U_4:=Xu (U_3.out.kp k4);have m1_4:=Xu (m1_3.out.kp k4);have m2_4:=Xu (m2_3.out.kp k4);have V_4:=Xu (V_3.out.kp k4);have m3_4:=Xu (m3_3.out.kp k4);have m4_4:=Xu (m4_3.out.kp k4);have B_4:=Xu (B_3.out.kp k4);clear T_3 U_3 m1_3 m2_3 V_3 m3_3 m4_3 B_3;have C_4:=Xu hC;clear hC k4;obtain ⟨g0,g1,g2,_⟩:=T_4.out.ra.cells;obtain ⟨h0,h1,h2,_⟩:=T_4.out.rb.cells)
   | (go_at_call 128;(with_reducible refine (CDA.out _ m1_4.out m2_4.out).mono ?_);rintro e w5 ⟨vA,rfl,hA,k5⟩;have T_5:=Xu (T_4.out.kp k5);have U_5:=Xu (U_4.out.kp k5);have m1_5:=Xu (m1_4.out.kp k5);have m2_5:=Xu (m2_4.out.kp k5);have V_5:=Xu (V_4.out.kp k5);have m3_5:=Xu (m3_4.out.kp k5);have m4_5:=Xu (m4_4.out.kp k5);have B_5:=Xu (B_4.out.kp k5);have C_5:=Xu (C_4.out.kp k5);clear T_4 U_4 m1_4 m2_4 V_4 m3_4 m4_4 B_4 C_4;have A_5:=Xu hA;clear hA k5;obtain ⟨g0,g1,g2,_⟩:=T_5.out.ra.cells;obtain ⟨h0,h1,h2,_⟩:=T_5.out.rb.cells)
   | (go_at_call 127;(with_reducible refine (CM2.out _ _ _ m3_5.out A_5.out).mono ?_);rintro e w6 ⟨vD,rfl,hD,k6⟩;have T_6:=Xu (T_5.out.kp k6);have U_6:=Xu (U_5.out.kp k6);have m1_6:=Xu (m1_5.out.kp k6);have m2_6:=Xu (m2_5.out.kp k6);have V_6:=Xu (V_5.out.kp k6);have m3_6:=Xu (m3_5.out.kp k6);have m4_6:=Xu (m4_5.out.kp k6);have B_6:=Xu (B_5.out.kp k6);have C_6:=Xu (C_5.out.kp k6);have A_6:=Xu (A_5.out.kp k6);clear T_5 U_5 m1_5 m2_5 V_5 m3_5 m4_5 B_5 C_5 A_5;have D_6:=Xu hD;clear hD k6;obtain ⟨g0,g1,g2,_⟩:=T_6.out.ra.cells;obtain ⟨h0,h1,h2,_⟩:=T_6.out.rb.cells))
 go_upto_region 6 with fail
 have T_7:=Xu (T_6.out.kp (Below.refl _ _).drew)
 have U_7:=Xu (U_6.out.kp (Below.refl _ _).drew)
 have m1_7:=Xu (m1_6.out.kp (Below.refl _ _).drew)
 have m2_7:=Xu (m2_6.out.kp (Below.refl _ _).drew)
 have V_7:=Xu (V_6.out.kp (Below.refl _ _).drew)
 have m3_7:=Xu (m3_6.out.kp (Below.refl _ _).drew)
 have m4_7:=Xu (m4_6.out.kp (Below.refl _ _).drew)
 have B_7:=Xu (B_6.out.kp (Below.refl _ _).drew)
 have C_7:=Xu (C_6.out.kp (Below.refl _ _).drew)
 have A_7:=Xu (A_6.out.kp (Below.refl _ _).drew)
 have D_7:=Xu (D_6.out.kp (Below.refl _ _).drew)
 clear T_6 U_6 m1_6 m2_6 V_6 m3_6 m4_6 B_6 C_6 A_6 D_6
 go_region_held3 (fun w'=>w'.cell? ⟨w.heap.size,0,none⟩=some (.bool p)∧w'.cell? ⟨w.heap.size,1,none⟩=some (.slice a1 l1 c1)∧w'.cell? ⟨w.heap.size,2,none⟩=some (.slice a2 l2 c2)∧w'.cell? ⟨w.heap.size+1,0,none⟩=some (.bool (!p))∧w'.cell? ⟨w.heap.size+1,1,none⟩=some (.slice a3 l3 c3)∧w'.cell? ⟨w.heap.size+1,2,none⟩=some (.slice a4 l4 c4))
  (first|(refine ⟨?_,?_,?_,?_,?_,?_⟩<;>assumption)|go_keep)
  (first
   | (go_at_call 128;(with_reducible refine (CDA.out _ m1_7.out m2_7.out).mono ?_);rintro e w8 ⟨vA2,rfl,hA2,k8⟩;have T_8:=Xu (T_7.out.kp k8);have U_8:=Xu (U_7.out.kp k8);have m1_8:=Xu (m1_7.out.kp k8);have m2_8:=Xu (m2_7.out.kp k8);have V_8:=Xu (V_7.out.kp k8);have m3_8:=Xu (m3_7.out.kp k8);have m4_8:=Xu (m4_7.out.kp k8);have B_8:=Xu (B_7.out.kp k8);have C_8:=Xu (C_7.out.kp k8);have A_8:=Xu (A_7.out.kp k8);have D_8:=Xu (D_7.out.kp k8);clear T_7 U_7 m1_7 m2_7 V_7 m3_7 m4_7 B_7 C_7 A_7 D_7;have A2_8:=Xu hA2;clear hA2 k8;obtain ⟨g0,g1,g2,_⟩:=T_8.out.ra.cells;obtain ⟨h0,h1,h2,_⟩:=T_8.out.rb.cells)
   | (go_at_call 128;(with_reducible refine (CDB.out _ m3_8.out m4_8.out).mono ?_);rintro e w9 ⟨vB2,rfl,hB2,k9⟩;have T_9:=Xu (T_8.out.kp k9);have U_9:=Xu (U_8.out.kp k9);have m1_9:=Xu (m1_8.out.kp k9);have m2_9:=Xu (m2_8.out.kp k9);have V_9:=Xu (V_8.out.kp k9);have m3_9:=Xu (m3_8.out.kp k9);have m4_9:=Xu (m4_8.out.kp k9);have B_9:=Xu (B_8.out.kp k9);have C_9:=Xu (C_8.out.kp k9);have A_9:=Xu (A_8.out.kp k9);have D_9:=Xu (D_8.out.kp k9);have A2_9:=Xu (A2_8.out.kp k9);clear T_8 U_8 m1_8 m2_8 V_8 m3_8 m4_8 B_8 C_8 A_8 D_8 A2_8;have B2_9:=Xu hB2;clear hB2 k9;obtain ⟨g0,g1,g2,_⟩:=T_9.out.ra.cells;obtain ⟨h0,h1,h2,_⟩:=T_9.out.rb.cells)
   | (go_at_call 127;(with_reducible refine (CM3.out _ _ _ A2_9.out B2_9.out).mono ?_);rintro e w10 ⟨vE,rfl,hE,k10⟩;have T_10:=Xu (T_9.out.kp k10);have U_10:=Xu (U_9.out.kp k10);have m1_10:=Xu (m1_9.out.kp k10);have m2_10:=Xu (m2_9.out.kp k10);have V_10:=Xu (V_9.out.kp k10);have m3_10:=Xu (m3_9.out.kp k10);have m4_10:=Xu (m4_9.out.kp k10);have B_10:=Xu (B_9.out.kp k10);have C_10:=Xu (C_9.out.kp k10);have A_10:=Xu (A_9.out.kp k10);have D_10:=Xu (D_9.out.kp k10);have A2_10:=Xu (A2_9.out.kp k10);have B2_10:=Xu (B2_9.out.kp k10);clear T_9 U_9 m1_9 m2_9 V_9 m3_9 m4_9 B_9 C_9 A_9 D_9 A2_9 B2_9;have E_10:=Xu hE;clear hE k10;obtain ⟨g0,g1,g2,_⟩:=T_10.out.ra.cells;obtain ⟨h0,h1,h2,_⟩:=T_10.out.rb.cells))
 go_wp2_with (go_at_call 88;(with_reducible refine (CC.out _ _ _ C_10.out D_10.out).mono ?_);rintro e w11 ⟨rfl,k11⟩;refine Hid.out ?_)
 refine Xu ?_
 have T_11:=Xu (T_10.out.kp k11)
 have U_11:=Xu (U_10.out.kp k11)
 have m1_11:=Xu (m1_10.out.kp k11)
 have m2_11:=Xu (m2_10.out.kp k11)
 have V_11:=Xu (V_10.out.kp k11)
 have m3_11:=Xu (m3_10.out.kp k11)
 have m4_11:=Xu (m4_10.out.kp k11)
 have B_11:=Xu (B_10.out.kp k11)
 have C_11:=Xu (C_10.out.kp k11)
 have A_11:=Xu (A_10.out.kp k11)
 have D_11:=Xu (D_10.out.kp k11)
 have A2_11:=Xu (A2_10.out.kp k11)
 have B2_11:=Xu (B2_10.out.kp k11)
 have E_11:=Xu (E_10.out.kp k11)
 clear T_10 U_10 m1_10 m2_10 V_10 m3_10 m4_10 B_10 C_10 A_10 D_10 A2_10 B2_10 E_10
 clear k11
 obtain ⟨g0,g1,g2,_⟩:=T_11.out.ra.cells
 obtain ⟨h0,h1,h2,_⟩:=T_11.out.rb.cells
 go_wp2_with (go_at_call 184;(with_reducible refine (CZ.out _ _ _ C_11.out D_11.out).mono ?_);rintro e w12 ⟨vG,rfl,hG,k12⟩;refine Hid.out ?_)
 refine Xu ?_
 have T_12:=Xu (T_11.out.kp k12)
 have U_12:=Xu (U_11.out.kp k12)
 have m1_12:=Xu (m1_11.out.kp k12)
 have m2_12:=Xu (m2_11.out.kp k12)
 have V_12:=Xu (V_11.out.kp k12)
 have m3_12:=Xu (m3_11.out.kp k12)
 have m4_12:=Xu (m4_11.out.kp k12)
 have B_12:=Xu (B_11.out.kp k12)
 have C_12:=Xu (C_11.out.kp k12)
 have A_12:=Xu (A_11.out.kp k12)
 have D_12:=Xu (D_11.out.kp k12)
 have A2_12:=Xu (A2_11.out.kp k12)
 have B2_12:=Xu (B2_11.out.kp k12)
 have E_12:=Xu (E_11.out.kp k12)
 clear T_11 U_11 m1_11 m2_11 V_11 m3_11 m4_11 B_11 C_11 A_11 D_11 A2_11 B2_11 E_11
 have G_12:=Xu hG
 clear hG k12
 obtain ⟨g0,g1,g2,_⟩:=T_12.out.ra.cells
 obtain ⟨h0,h1,h2,_⟩:=T_12.out.rb.cells
 go_wp2_with (go_at_call 126;(with_reducible refine (CR.out _ _ _ _ G_12.out E_12.out).mono ?_);rintro e w13 ⟨vr,rfl,hvr,k13⟩;refine Hid.out ?_)
 refine Xu ?_
 have T_13:=Xu (T_12.out.kp k13)
 have U_13:=Xu (U_12.out.kp k13)
 have m1_13:=Xu (m1_12.out.kp k13)
 have m2_13:=Xu (m2_12.out.kp k13)
 have V_13:=Xu (V_12.out.kp k13)
 have m3_13:=Xu (m3_12.out.kp k13)
 have m4_13:=Xu (m4_12.out.kp k13)
 have B_13:=Xu (B_12.out.kp k13)
 have C_13:=Xu (C_12.out.kp k13)
 have A_13:=Xu (A_12.out.kp k13)
 have D_13:=Xu (D_12.out.kp k13)
 have A2_13:=Xu (A2_12.out.kp k13)
 have B2_13:=Xu (B2_12.out.kp k13)
 have E_13:=Xu (E_12.out.kp k13)
 have G_13:=Xu (G_12.out.kp k13)
 clear T_12 U_12 m1_12 m2_12 V_12 m3_12 m4_12 B_12 C_12 A_12 D_12 A2_12 B2_12 E_12 G_12
 clear k13
 obtain ⟨sgn,q1,r1,s1,q2,r2,s2,rfl⟩:=hvr.lit
 obtain ⟨⟨e0,e1,e2,f0,f1,f2⟩,HPP,HV,HKF⟩:=BR T_13.out.rr T_13.out.k (Below.refl _ _) hvr (by omega)
 clear hvr
 obtain ⟨k0,k1,k2⟩:=HPP.out
 go_wp2
 exact bodyPost_ret (v:= .agg #[.bool sgn,.slice q1 r1 s1,.slice q2 r2 s2]) (by simp [results,Tryz.results114,go_sem,k0,k1,k2]) rfl ⟨_,rfl,HV.out,HKF.out⟩
theorem J2 {w:World} {u:Value} {x:Rat} (hu:Ax w u x) {v:Value} {y:Rat} (hv:Ax w v y) {j k:Nat} (hs:RSz j x) (ht:RSz k y) (hj:j≤500000000) (hk:k≤500000000):
  Calls Tryz.prog 114 #[u,v] w fun e w'=> ∃r,e= .returned r∧Ax w' r (x+y)∧Kp w w':=by
 by_cases h0:x=0
 ·have:=Oj hu hv h0
  rw [h0,Rat.zero_add]
  exact this
 ·by_cases h1:y=0
  ·have:=Mt hu hv h1 h0
   rw [h1,Rat.add_zero]
   exact this
  ·by_cases hs9:decide (x.num<0)=decide (y.num<0)
   ·exact Og hu hv hs ht hj hk h0 h1 hs9
   ·have hn:decide (y.num<0)=!decide (x.num<0):=by
     generalize decide (x.num<0)=a at*
     generalize decide (y.num<0)=b at*
     cases a<;>cases b<;>simp_all
    by_cases hlt:x.num.natAbs*y.den<y.num.natAbs*x.den
    ·exact Oi hu hv hs ht hj hk h0 h1 hn hlt
    ·exact Oh hu hv hs ht hj hk h0 h1 hn hlt
theorem QX {w:World} {u:Value} {x:Rat} (hu:Ax w u x) {v:Value} {y:Rat} (hv:Ax w v y) {j k:Nat} (hs:RSz j x) (ht:RSz k y) (hj:j≤500000000) (hk:k≤500000000):
  Calls Tryz.prog 129 #[u,v] w fun e w'=> ∃r,e= .returned r∧Ax w' r (x-y)∧Kp w w':=by
 rw [Rat.sub_eq_add_neg]
 obtain ⟨a1,l1,c1,a2,l2,c2,rfl,m1,m2⟩:=hu.parts
 obtain ⟨a3,l3,c3,a4,l4,c4,rfl,m3,m4⟩:=hv.parts
 have HT:=Xu (Two.new w (.bool (decide (x.num<0))) (.slice a1 l1 c1) (.slice a2 l2 c2) (.bool (decide (y.num<0))) (.slice a3 l3 c3) (.slice a4 l4 c4))
 have HU:=Xu hu
 have HV:=Xu hv
 have CN:=Xu (fun w' a (ha:Ax w' a y)=>QY ha)
 have CA:=Xu (fun w' a b (ha:Ax w' a x) (hb:Ax w' b (-y))=>J2 ha hb hs ht.neg hj hk)
 obtain ⟨p,hp⟩: ∃b,b=decide (x.num<0):=⟨_,rfl⟩
 try rw [←hp] at HT
 try rw [←hp] at HU
 try rw [←hp] at HV
 try rw [←hp] at CN
 try rw [←hp] at CA
 try rw [←hp]
 have HPp:=Xu hp
 obtain ⟨q,hq⟩: ∃b,b=decide (y.num<0):=⟨_,rfl⟩
 try rw [←hq] at HT
 try rw [←hq] at HU
 try rw [←hq] at HV
 try rw [←hq] at CN
 try rw [←hq] at CA
 try rw [←hq]
 have HPq:=Xu hq
 clear hu m1 m2 hp hv m3 m4 hq
 go_enter Tryz.func129,Tryz.ntmps129
 have KN:=HT.out.k
 have U_e:=Xu (HU.out.kp KN)
 have V_e:=Xu (HV.out.kp KN)
 clear KN
 obtain ⟨g0,g1,g2,_⟩:=HT.out.ra.cells
 obtain ⟨h0,h1,h2,_⟩:=HT.out.rb.cells
 have n1: ¬(w.heap.size+1+1=w.heap.size):=by omega
 have n2: ¬(w.heap.size=w.heap.size+1+1):=by omega
 go_wp2_with fail
 have T_2:=Xu (HT.out.kp (Below.refl _ _).drew)
 have U_2:=Xu (U_e.out.kp (Below.refl _ _).drew)
 have V_2:=Xu (V_e.out.kp (Below.refl _ _).drew)
 clear HT U_e V_e
 go_region_held3 (fun w'=>w'.cell? ⟨w.heap.size,0,none⟩=some (.bool p)∧w'.cell? ⟨w.heap.size,1,none⟩=some (.slice a1 l1 c1)∧w'.cell? ⟨w.heap.size,2,none⟩=some (.slice a2 l2 c2)∧w'.cell? ⟨w.heap.size+1,0,none⟩=some (.bool q)∧w'.cell? ⟨w.heap.size+1,1,none⟩=some (.slice a3 l3 c3)∧w'.cell? ⟨w.heap.size+1,2,none⟩=some (.slice a4 l4 c4))
  (first|(refine ⟨?_,?_,?_,?_,?_,?_⟩<;>assumption)|go_keep)
  (first
   | (go_at_call 197;(with_reducible refine (CN.out _ _ V_2.out).mono ?_);rintro e w3 ⟨vn,rfl,hvn,k3⟩;have T_3:=Xu (T_2.out.kp k3);have U_3:=Xu (U_2.out.kp k3);have V_3:=Xu (V_2.out.kp k3);clear T_2 U_2 V_2;have N_3:=Xu hvn;clear hvn k3;obtain ⟨g0,g1,g2,_⟩:=T_3.out.ra.cells;obtain ⟨h0,h1,h2,_⟩:=T_3.out.rb.cells)
   | (go_at_call 114;(with_reducible refine (CA.out _ _ _ U_3.out N_3.out).mono ?_);rintro e w4 ⟨vr,rfl,hvr,k4⟩;have T_4:=Xu (T_3.out.kp k4);have U_4:=Xu (U_3.out.kp k4);have V_4:=Xu (V_3.out.kp k4);have N_4:=Xu (N_3.out.kp k4);clear T_3 U_3 V_3 N_3;obtain ⟨sgn,q1,r1,s1,q2,r2,s2,rfl⟩:=hvr.lit;obtain ⟨⟨e0,e1,e2,f0,f1,f2⟩,HPP,HV,HKF⟩:=BR T_4.out.rr T_4.out.k (Below.refl _ _) hvr (by omega);clear hvr;clear k4;obtain ⟨g0,g1,g2,_⟩:=T_4.out.ra.cells;obtain ⟨h0,h1,h2,_⟩:=T_4.out.rb.cells))
 obtain ⟨k0,k1,k2⟩:=HPP.out
 go_wp2
 exact bodyPost_ret (v:= .agg #[.bool sgn,.slice q1 r1 s1,.slice q2 r2 s2]) (by simp [results,Tryz.results129,go_sem,k0,k1,k2]) rfl ⟨_,rfl,HV.out,HKF.out⟩
end Go.Proofs.YtfineedhebhpaaaGreatDoor
