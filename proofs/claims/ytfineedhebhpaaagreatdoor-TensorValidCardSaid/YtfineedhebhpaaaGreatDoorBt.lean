/-
  Several texts in one: Rq3, Rq4, Rq6, Rq8.
-/
import Derived.Test.YtfineedhebhpaaaGreatDoorBr
import Derived.Test.YtfineedhebhpaaaGreatDoorRq5
import Derived.Test.YtfineedhebhpaaaGreatDoorBs
import Derived.Test.YtfineedhebhpaaaGreatDoorRq7
namespace Go.Proofs.YtfineedhebhpaaaGreatDoor
open Lib renaming hid→Yt
set_option maxHeartbeats 16000000
open Go.RowKit
set_option maxRecDepth 20000 in
theorem OZ {w:World} {u:Value} {x:Rat} (hu:Ax w u x) {v:Value} {y:Rat} (hv:Ax w v y) (h0:x=0):
  Calls Tryz.prog 114 #[u,v] w fun e w'=> ∃r,e= .returned r∧Ax w' r (y)∧Kp w w':=by
 obtain ⟨a1,l1,c1,a2,l2,c2,rfl,m1,m2⟩:=hu.parts
 obtain ⟨a3,l3,c3,a4,l4,c4,rfl,m3,m4⟩:=hv.parts
 have HT:=Yt (Two.new w (.bool (decide (x.num<0))) (.slice a1 l1 c1) (.slice a2 l2 c2) (.bool (decide (y.num<0))) (.slice a3 l3 c3) (.slice a4 l4 c4))
 have HU:=Yt hu
 have Hm1:=Yt m1
 have Hm2:=Yt m2
 have HV:=Yt hv
 have Hm3:=Yt m3
 have Hm4:=Yt m4
 obtain ⟨p,hp⟩: ∃b,b=decide (x.num<0):=⟨_,rfl⟩
 try rw [←hp] at HT
 try rw [←hp] at HU
 try rw [←hp] at Hm1
 try rw [←hp] at Hm2
 try rw [←hp] at HV
 try rw [←hp] at Hm3
 try rw [←hp] at Hm4
 try rw [←hp]
 have HPp:=Yt hp
 obtain ⟨q,hq⟩: ∃b,b=decide (y.num<0):=⟨_,rfl⟩
 try rw [←hq] at HT
 try rw [←hq] at HU
 try rw [←hq] at Hm1
 try rw [←hq] at Hm2
 try rw [←hq] at HV
 try rw [←hq] at Hm3
 try rw [←hq] at Hm4
 try rw [←hq]
 have HPq:=Yt hq
 clear hu m1 m2 hp hv m3 m4 hq
 obtain rfl:=(Ch Hm1.out).2 (by rw [h0];rfl)
 clear h0
 go_enter Tryz.func114,Tryz.ntmps114
 have KN:=HT.out.k
 have U_e:=Yt (HU.out.kp KN)
 have m1_e:=Yt (Hm1.out.kp KN)
 have m2_e:=Yt (Hm2.out.kp KN)
 have V_e:=Yt (HV.out.kp KN)
 have m3_e:=Yt (Hm3.out.kp KN)
 have m4_e:=Yt (Hm4.out.kp KN)
 clear KN
 obtain ⟨g0,g1,g2,_⟩:=HT.out.ra.cells
 obtain ⟨h0,h1,h2,_⟩:=HT.out.rb.cells
 go_wp2
 exact bodyPost_ret (v:= .agg #[.bool q,.slice a3 l3 c3,.slice a4 l4 c4]) (by simp [results,Tryz.results114,go_sem]) rfl ⟨_,rfl,HV.out.kp (((Kp.alloc w _).tr (Kp.alloc _ _)).tr (Kp.alloc _ _)),(((Kp.alloc w _).tr (Kp.alloc _ _)).tr (Kp.alloc _ _))⟩
set_option maxRecDepth 20000 in
theorem Nf {w:World} {u:Value} {x:Rat} (hu:Ax w u x) {v:Value} {y:Rat} (hv:Ax w v y) (h0:y=0) (h1:x≠0):
  Calls Tryz.prog 114 #[u,v] w fun e w'=> ∃r,e= .returned r∧Ax w' r (x)∧Kp w w':=by
 obtain ⟨a1,l1,c1,a2,l2,c2,rfl,m1,m2⟩:=hu.parts
 obtain ⟨a3,l3,c3,a4,l4,c4,rfl,m3,m4⟩:=hv.parts
 have HT:=Yt (Two.new w (.bool (decide (x.num<0))) (.slice a1 l1 c1) (.slice a2 l2 c2) (.bool (decide (y.num<0))) (.slice a3 l3 c3) (.slice a4 l4 c4))
 have HU:=Yt hu
 have Hm1:=Yt m1
 have Hm2:=Yt m2
 have HV:=Yt hv
 have Hm3:=Yt m3
 have Hm4:=Yt m4
 obtain ⟨p,hp⟩: ∃b,b=decide (x.num<0):=⟨_,rfl⟩
 try rw [←hp] at HT
 try rw [←hp] at HU
 try rw [←hp] at Hm1
 try rw [←hp] at Hm2
 try rw [←hp] at HV
 try rw [←hp] at Hm3
 try rw [←hp] at Hm4
 try rw [←hp]
 have HPp:=Yt hp
 obtain ⟨q,hq⟩: ∃b,b=decide (y.num<0):=⟨_,rfl⟩
 try rw [←hq] at HT
 try rw [←hq] at HU
 try rw [←hq] at Hm1
 try rw [←hq] at Hm2
 try rw [←hq] at HV
 try rw [←hq] at Hm3
 try rw [←hq] at Hm4
 try rw [←hq]
 have HPq:=Yt hq
 clear hu m1 m2 hp hv m3 m4 hq
 obtain rfl:=(Ch Hm3.out).2 (by rw [h0];rfl)
 have hl1:0<l1:=by have:=Ch Hm1.out;have:x.num.natAbs≠0:=fun e=>h1 (Rat.num_eq_zero.1 (Int.natAbs_eq_zero.1 e));omega
 have hl1z:((l1:Int)==0)=false:=beq_eq_false_iff_ne.2 (by omega)
 clear h0 h1
 go_enter Tryz.func114,Tryz.ntmps114
 have KN:=HT.out.k
 have U_e:=Yt (HU.out.kp KN)
 have m1_e:=Yt (Hm1.out.kp KN)
 have m2_e:=Yt (Hm2.out.kp KN)
 have V_e:=Yt (HV.out.kp KN)
 have m3_e:=Yt (Hm3.out.kp KN)
 have m4_e:=Yt (Hm4.out.kp KN)
 clear KN
 obtain ⟨g0,g1,g2,_⟩:=HT.out.ra.cells
 obtain ⟨h0,h1,h2,_⟩:=HT.out.rb.cells
 go_wp2
 exact bodyPost_ret (v:= .agg #[.bool p,.slice a1 l1 c1,.slice a2 l2 c2]) (by simp [results,Tryz.results114,go_sem]) rfl ⟨_,rfl,HU.out.kp (((Kp.alloc w _).tr (Kp.alloc _ _)).tr (Kp.alloc _ _)),(((Kp.alloc w _).tr (Kp.alloc _ _)).tr (Kp.alloc _ _))⟩
set_option maxRecDepth 20000 in
theorem OW {w:World} {u:Value} {x:Rat} (hu:Ax w u x) {v:Value} {y:Rat} (hv:Ax w v y) {j k:Nat} (hs:RSz j x) (ht:RSz k y) (hj:j≤500000000) (hk:k≤500000000) (h0:x≠0) (h1:y≠0) (hs9:decide (x.num<0)=decide (y.num<0)):
  Calls Tryz.prog 114 #[u,v] w fun e w'=> ∃r,e= .returned r∧Ax w' r (x+y)∧Kp w w':=by
 have hres:AE (decide (x.num<0)) (x.num.natAbs*y.den+y.num.natAbs*x.den) (x.den*y.den)=x+y:=by
  rw [←Jy _ x.den_nz y.den_nz,Bx,hs9,Bx]
 rw [←hres]
 clear hres
 have hd0:x.den*y.den≠0:=Nat.mul_ne_zero x.den_nz y.den_nz
 have SA:Sz (j+k) (x.num.natAbs*y.den):=hs.1.mul ht.2
 have SB:Sz (k+j) (y.num.natAbs*x.den):=ht.1.mul hs.2
 have SD:Sz (j+k) (x.den*y.den):=hs.2.mul ht.2
 have SZ:Sz (j+k+1) _:=SA.plus (by rw [Nat.add_comm j k];exact SB)
 obtain ⟨a1,l1,c1,a2,l2,c2,rfl,m1,m2⟩:=hu.parts
 obtain ⟨a3,l3,c3,a4,l4,c4,rfl,m3,m4⟩:=hv.parts
 have HT:=Yt (Two.new w (.bool (decide (x.num<0))) (.slice a1 l1 c1) (.slice a2 l2 c2) (.bool (decide (y.num<0))) (.slice a3 l3 c3) (.slice a4 l4 c4))
 have HU:=Yt hu
 have Hm1:=Yt m1
 have Hm2:=Yt m2
 have HV:=Yt hv
 have Hm3:=Yt m3
 have Hm4:=Yt m4
 have CDA:=Yt (fun w' (a:M w' (.slice a1 l1 c1) x.num.natAbs) (b:M w' (.slice a2 l2 c2) (AX x))=>EW (s:=decide (x.num<0)) a b)
 have CDB:=Yt (fun w' (a:M w' (.slice a3 l3 c3) y.num.natAbs) (b:M w' (.slice a4 l4 c4) (AX y))=>EW (s:=decide (y.num<0)) a b)
 have CM1:=Yt (fun w' va vb (a:M w' va (x.num.natAbs)) (b:M w' vb (y.den))=>Co a b hs.1 ht.2 (by omega) (by omega))
 have CM2:=Yt (fun w' va vb (a:M w' va (y.num.natAbs)) (b:M w' vb (x.den))=>Co a b ht.1 hs.2 (by omega) (by omega))
 have CM3:=Yt (fun w' va vb (a:M w' va (x.den)) (b:M w' vb (y.den))=>Co a b hs.2 ht.2 (by omega) (by omega))
 have CZ:=Yt (fun w' va vb (a:M w' va (x.num.natAbs*y.den)) (b:M w' vb (y.num.natAbs*x.den))=>TH a b SA SB (by omega) (by omega))
 have CR:=Yt (fun w' s va vb (a:M w' va (x.num.natAbs*y.den+y.num.natAbs*x.den)) (b:M w' vb (x.den*y.den))=>Fj (neg:=s) a b SZ SD (by omega) (by omega) hd0)
 obtain ⟨p,hp⟩: ∃b,b=decide (x.num<0):=⟨_,rfl⟩
 try rw [←hp] at HT
 try rw [←hp] at HU
 try rw [←hp] at Hm1
 try rw [←hp] at Hm2
 try rw [←hp] at HV
 try rw [←hp] at Hm3
 try rw [←hp] at Hm4
 try rw [←hp] at CDA
 try rw [←hp] at CDB
 try rw [←hp] at CM1
 try rw [←hp] at CM2
 try rw [←hp] at CM3
 try rw [←hp] at CZ
 try rw [←hp] at CR
 try rw [←hp]
 have HPp:=Yt hp
 obtain ⟨q,hq⟩: ∃b,b=decide (y.num<0):=⟨_,rfl⟩
 try rw [←hq] at HT
 try rw [←hq] at HU
 try rw [←hq] at Hm1
 try rw [←hq] at Hm2
 try rw [←hq] at HV
 try rw [←hq] at Hm3
 try rw [←hq] at Hm4
 try rw [←hq] at CDA
 try rw [←hq] at CDB
 try rw [←hq] at CM1
 try rw [←hq] at CM2
 try rw [←hq] at CM3
 try rw [←hq] at CZ
 try rw [←hq] at CR
 try rw [←hq]
 have HPq:=Yt hq
 clear hu m1 m2 hp hv m3 m4 hq
 have hl1:0<l1:=by have:=Ch Hm1.out;have:x.num.natAbs≠0:=fun e=>h0 (Rat.num_eq_zero.1 (Int.natAbs_eq_zero.1 e));omega
 have hl1z:((l1:Int)==0)=false:=beq_eq_false_iff_ne.2 (by omega)
 have hl3:0<l3:=by have:=Ch Hm3.out;have:y.num.natAbs≠0:=fun e=>h1 (Rat.num_eq_zero.1 (Int.natAbs_eq_zero.1 e));omega
 have hl3z:((l3:Int)==0)=false:=beq_eq_false_iff_ne.2 (by omega)
 have hpq:p=q:=by rw [HPp.out,HPq.out,hs9]
 subst hpq
 clear SA SB SD SZ hd0 h0 h1 hs9 hs ht hj hk
 go_enter Tryz.func114,Tryz.ntmps114
 have KN:=HT.out.k
 have U_e:=Yt (HU.out.kp KN)
 have m1_e:=Yt (Hm1.out.kp KN)
 have m2_e:=Yt (Hm2.out.kp KN)
 have V_e:=Yt (HV.out.kp KN)
 have m3_e:=Yt (Hm3.out.kp KN)
 have m4_e:=Yt (Hm4.out.kp KN)
 clear KN
 obtain ⟨g0,g1,g2,_⟩:=HT.out.ra.cells
 obtain ⟨h0,h1,h2,_⟩:=HT.out.rb.cells
 go_upto_region 5 with fail
 have T_2:=Yt (HT.out.kp (Below.refl _ _).drew)
 have U_2:=Yt (U_e.out.kp (Below.refl _ _).drew)
 have m1_2:=Yt (m1_e.out.kp (Below.refl _ _).drew)
 have m2_2:=Yt (m2_e.out.kp (Below.refl _ _).drew)
 have V_2:=Yt (V_e.out.kp (Below.refl _ _).drew)
 have m3_2:=Yt (m3_e.out.kp (Below.refl _ _).drew)
 have m4_2:=Yt (m4_e.out.kp (Below.refl _ _).drew)
 clear HT U_e m1_e m2_e V_e m3_e m4_e
 go_region_held3 (fun w'=>w'.cell? ⟨w.heap.size,0,none⟩=some (.bool p)∧w'.cell? ⟨w.heap.size,1,none⟩=some (.slice a1 l1 c1)∧w'.cell? ⟨w.heap.size,2,none⟩=some (.slice a2 l2 c2)∧w'.cell? ⟨w.heap.size+1,0,none⟩=some (.bool p)∧w'.cell? ⟨w.heap.size+1,1,none⟩=some (.slice a3 l3 c3)∧w'.cell? ⟨w.heap.size+1,2,none⟩=some (.slice a4 l4 c4))
  (first|(refine ⟨?_,?_,?_,?_,?_,?_⟩<;>assumption)|go_keep)
  (first
   | (go_at_call 128;(with_reducible refine (CDB.out _ m3_2.out m4_2.out).mono ?_);rintro e w3 ⟨vB,rfl,hB,k3⟩;have T_3:=Yt (T_2.out.kp k3);have U_3:=Yt (U_2.out.kp k3);have m1_3:=Yt (m1_2.out.kp k3);have m2_3:=Yt (m2_2.out.kp k3);have V_3:=Yt (V_2.out.kp k3);have m3_3:=Yt (m3_2.out.kp k3);have m4_3:=Yt (m4_2.out.kp k3);clear T_2 U_2 m1_2 m2_2 V_2 m3_2 m4_2;have B_3:=Yt hB;clear hB k3;obtain ⟨g0,g1,g2,_⟩:=T_3.out.ra.cells;obtain ⟨h0,h1,h2,_⟩:=T_3.out.rb.cells)
   | (go_at_call 127;(with_reducible refine (CM1.out _ _ _ m1_3.out B_3.out).mono ?_);rintro e w4 ⟨vC,rfl,hC,k4⟩;have T_4:=Yt (T_3.out.kp k4);have U_4:=Yt (U_3.out.kp k4);have m1_4:=Yt (m1_3.out.kp k4);have m2_4:=Yt (m2_3.out.kp k4);have V_4:=Yt (V_3.out.kp k4);have m3_4:=Yt (m3_3.out.kp k4);have m4_4:=Yt (m4_3.out.kp k4);have B_4:=Yt (B_3.out.kp k4);clear T_3 U_3 m1_3 m2_3 V_3 m3_3 m4_3 B_3;have C_4:=Yt hC;clear hC k4;obtain ⟨g0,g1,g2,_⟩:=T_4.out.ra.cells;obtain ⟨h0,h1,h2,_⟩:=T_4.out.rb.cells)
   | (go_at_call 128;(with_reducible refine (CDA.out _ m1_4.out m2_4.out).mono ?_);rintro e w5 ⟨vA,rfl,hA,k5⟩;have T_5:=Yt (T_4.out.kp k5);have U_5:=Yt (U_4.out.kp k5);have m1_5:=Yt (m1_4.out.kp k5);have m2_5:=Yt (m2_4.out.kp k5);have V_5:=Yt (V_4.out.kp k5);have m3_5:=Yt (m3_4.out.kp k5);have m4_5:=Yt (m4_4.out.kp k5);have B_5:=Yt (B_4.out.kp k5);have C_5:=Yt (C_4.out.kp k5);clear T_4 U_4 m1_4 m2_4 V_4 m3_4 m4_4 B_4 C_4;have A_5:=Yt hA;clear hA k5;obtain ⟨g0,g1,g2,_⟩:=T_5.out.ra.cells;obtain ⟨h0,h1,h2,_⟩:=T_5.out.rb.cells)
   | (go_at_call 127;(with_reducible refine (CM2.out _ _ _ m3_5.out A_5.out).mono ?_);rintro e w6 ⟨vD,rfl,hD,k6⟩;have T_6:=Yt (T_5.out.kp k6);have U_6:=Yt (U_5.out.kp k6);have m1_6:=Yt (m1_5.out.kp k6);have m2_6:=Yt (m2_5.out.kp k6);have V_6:=Yt (V_5.out.kp k6);have m3_6:=Yt (m3_5.out.kp k6);have m4_6:=Yt (m4_5.out.kp k6);have B_6:=Yt (B_5.out.kp k6);have C_6:=Yt (C_5.out.kp k6);have A_6:=Yt (A_5.out.kp k6);clear T_5 U_5 m1_5 m2_5 V_5 m3_5 m4_5 B_5 C_5 A_5;have D_6:=Yt hD;clear hD k6;obtain ⟨g0,g1,g2,_⟩:=T_6.out.ra.cells;obtain ⟨h0,h1,h2,_⟩:=T_6.out.rb.cells))
 go_upto_region 6 with fail
 have T_7:=Yt (T_6.out.kp (Below.refl _ _).drew)
 have U_7:=Yt (U_6.out.kp (Below.refl _ _).drew)
 have m1_7:=Yt (m1_6.out.kp (Below.refl _ _).drew)
 have m2_7:=Yt (m2_6.out.kp (Below.refl _ _).drew)
 have V_7:=Yt (V_6.out.kp (Below.refl _ _).drew)
 have m3_7:=Yt (m3_6.out.kp (Below.refl _ _).drew)
 have m4_7:=Yt (m4_6.out.kp (Below.refl _ _).drew)
 have B_7:=Yt (B_6.out.kp (Below.refl _ _).drew)
 have C_7:=Yt (C_6.out.kp (Below.refl _ _).drew)
 have A_7:=Yt (A_6.out.kp (Below.refl _ _).drew)
 have D_7:=Yt (D_6.out.kp (Below.refl _ _).drew)
 clear T_6 U_6 m1_6 m2_6 V_6 m3_6 m4_6 B_6 C_6 A_6 D_6
 go_region_held3 (fun w'=>w'.cell? ⟨w.heap.size,0,none⟩=some (.bool p)∧w'.cell? ⟨w.heap.size,1,none⟩=some (.slice a1 l1 c1)∧w'.cell? ⟨w.heap.size,2,none⟩=some (.slice a2 l2 c2)∧w'.cell? ⟨w.heap.size+1,0,none⟩=some (.bool p)∧w'.cell? ⟨w.heap.size+1,1,none⟩=some (.slice a3 l3 c3)∧w'.cell? ⟨w.heap.size+1,2,none⟩=some (.slice a4 l4 c4))
  (first|(refine ⟨?_,?_,?_,?_,?_,?_⟩<;>assumption)|go_keep)
  (first
   | (go_at_call 128;(with_reducible refine (CDA.out _ m1_7.out m2_7.out).mono ?_);rintro e w8 ⟨vA2,rfl,hA2,k8⟩;have T_8:=Yt (T_7.out.kp k8);have U_8:=Yt (U_7.out.kp k8);have m1_8:=Yt (m1_7.out.kp k8);have m2_8:=Yt (m2_7.out.kp k8);have V_8:=Yt (V_7.out.kp k8);have m3_8:=Yt (m3_7.out.kp k8);have m4_8:=Yt (m4_7.out.kp k8);have B_8:=Yt (B_7.out.kp k8);have C_8:=Yt (C_7.out.kp k8);have A_8:=Yt (A_7.out.kp k8);have D_8:=Yt (D_7.out.kp k8);clear T_7 U_7 m1_7 m2_7 V_7 m3_7 m4_7 B_7 C_7 A_7 D_7;have A2_8:=Yt hA2;clear hA2 k8;obtain ⟨g0,g1,g2,_⟩:=T_8.out.ra.cells;obtain ⟨h0,h1,h2,_⟩:=T_8.out.rb.cells)
   | (go_at_call 128;(with_reducible refine (CDB.out _ m3_8.out m4_8.out).mono ?_);rintro e w9 ⟨vB2,rfl,hB2,k9⟩;have T_9:=Yt (T_8.out.kp k9);have U_9:=Yt (U_8.out.kp k9);have m1_9:=Yt (m1_8.out.kp k9);have m2_9:=Yt (m2_8.out.kp k9);have V_9:=Yt (V_8.out.kp k9);have m3_9:=Yt (m3_8.out.kp k9);have m4_9:=Yt (m4_8.out.kp k9);have B_9:=Yt (B_8.out.kp k9);have C_9:=Yt (C_8.out.kp k9);have A_9:=Yt (A_8.out.kp k9);have D_9:=Yt (D_8.out.kp k9);have A2_9:=Yt (A2_8.out.kp k9);clear T_8 U_8 m1_8 m2_8 V_8 m3_8 m4_8 B_8 C_8 A_8 D_8 A2_8;have B2_9:=Yt hB2;clear hB2 k9;obtain ⟨g0,g1,g2,_⟩:=T_9.out.ra.cells;obtain ⟨h0,h1,h2,_⟩:=T_9.out.rb.cells)
   | (go_at_call 127;(with_reducible refine (CM3.out _ _ _ A2_9.out B2_9.out).mono ?_);rintro e w10 ⟨vE,rfl,hE,k10⟩;have T_10:=Yt (T_9.out.kp k10);have U_10:=Yt (U_9.out.kp k10);have m1_10:=Yt (m1_9.out.kp k10);have m2_10:=Yt (m2_9.out.kp k10);have V_10:=Yt (V_9.out.kp k10);have m3_10:=Yt (m3_9.out.kp k10);have m4_10:=Yt (m4_9.out.kp k10);have B_10:=Yt (B_9.out.kp k10);have C_10:=Yt (C_9.out.kp k10);have A_10:=Yt (A_9.out.kp k10);have D_10:=Yt (D_9.out.kp k10);have A2_10:=Yt (A2_9.out.kp k10);have B2_10:=Yt (B2_9.out.kp k10);clear T_9 U_9 m1_9 m2_9 V_9 m3_9 m4_9 B_9 C_9 A_9 D_9 A2_9 B2_9;have E_10:=Yt hE;clear hE k10;obtain ⟨g0,g1,g2,_⟩:=T_10.out.ra.cells;obtain ⟨h0,h1,h2,_⟩:=T_10.out.rb.cells))
 go_upto_region 8 with fail
 have n1: ¬(w.heap.size+1+1=w.heap.size):=by omega
 have n2: ¬(w.heap.size=w.heap.size+1+1):=by omega
 have T_11:=Yt (T_10.out.kp (Below.refl _ _).drew)
 have U_11:=Yt (U_10.out.kp (Below.refl _ _).drew)
 have m1_11:=Yt (m1_10.out.kp (Below.refl _ _).drew)
 have m2_11:=Yt (m2_10.out.kp (Below.refl _ _).drew)
 have V_11:=Yt (V_10.out.kp (Below.refl _ _).drew)
 have m3_11:=Yt (m3_10.out.kp (Below.refl _ _).drew)
 have m4_11:=Yt (m4_10.out.kp (Below.refl _ _).drew)
 have B_11:=Yt (B_10.out.kp (Below.refl _ _).drew)
 have C_11:=Yt (C_10.out.kp (Below.refl _ _).drew)
 have A_11:=Yt (A_10.out.kp (Below.refl _ _).drew)
 have D_11:=Yt (D_10.out.kp (Below.refl _ _).drew)
 have A2_11:=Yt (A2_10.out.kp (Below.refl _ _).drew)
 have B2_11:=Yt (B2_10.out.kp (Below.refl _ _).drew)
 have E_11:=Yt (E_10.out.kp (Below.refl _ _).drew)
 clear T_10 U_10 m1_10 m2_10 V_10 m3_10 m4_10 B_10 C_10 A_10 D_10 A2_10 B2_10 E_10
 go_region_held3 (fun w'=>w'.cell? ⟨w.heap.size,0,none⟩=some (.bool p)∧w'.cell? ⟨w.heap.size,1,none⟩=some (.slice a1 l1 c1)∧w'.cell? ⟨w.heap.size,2,none⟩=some (.slice a2 l2 c2)∧w'.cell? ⟨w.heap.size+1,0,none⟩=some (.bool p)∧w'.cell? ⟨w.heap.size+1,1,none⟩=some (.slice a3 l3 c3)∧w'.cell? ⟨w.heap.size+1,2,none⟩=some (.slice a4 l4 c4))
  (first|(refine ⟨?_,?_,?_,?_,?_,?_⟩<;>assumption)|go_keep)
  (first
   | (go_at_call 183;(with_reducible refine (CZ.out _ _ _ C_11.out D_11.out).mono ?_);rintro e w12 ⟨vG,rfl,hG,k12⟩;have T_12:=Yt (T_11.out.kp k12);have U_12:=Yt (U_11.out.kp k12);have m1_12:=Yt (m1_11.out.kp k12);have m2_12:=Yt (m2_11.out.kp k12);have V_12:=Yt (V_11.out.kp k12);have m3_12:=Yt (m3_11.out.kp k12);have m4_12:=Yt (m4_11.out.kp k12);have B_12:=Yt (B_11.out.kp k12);have C_12:=Yt (C_11.out.kp k12);have A_12:=Yt (A_11.out.kp k12);have D_12:=Yt (D_11.out.kp k12);have A2_12:=Yt (A2_11.out.kp k12);have B2_12:=Yt (B2_11.out.kp k12);have E_12:=Yt (E_11.out.kp k12);clear T_11 U_11 m1_11 m2_11 V_11 m3_11 m4_11 B_11 C_11 A_11 D_11 A2_11 B2_11 E_11;have G_12:=Yt hG;clear hG k12;obtain ⟨g0,g1,g2,_⟩:=T_12.out.ra.cells;obtain ⟨h0,h1,h2,_⟩:=T_12.out.rb.cells)
   | (go_at_call 126;(with_reducible refine (CR.out _ _ _ _ G_12.out E_12.out).mono ?_);rintro e w13 ⟨vr,rfl,hvr,k13⟩;have T_13:=Yt (T_12.out.kp k13);have U_13:=Yt (U_12.out.kp k13);have m1_13:=Yt (m1_12.out.kp k13);have m2_13:=Yt (m2_12.out.kp k13);have V_13:=Yt (V_12.out.kp k13);have m3_13:=Yt (m3_12.out.kp k13);have m4_13:=Yt (m4_12.out.kp k13);have B_13:=Yt (B_12.out.kp k13);have C_13:=Yt (C_12.out.kp k13);have A_13:=Yt (A_12.out.kp k13);have D_13:=Yt (D_12.out.kp k13);have A2_13:=Yt (A2_12.out.kp k13);have B2_13:=Yt (B2_12.out.kp k13);have E_13:=Yt (E_12.out.kp k13);have G_13:=Yt (G_12.out.kp k13);clear T_12 U_12 m1_12 m2_12 V_12 m3_12 m4_12 B_12 C_12 A_12 D_12 A2_12 B2_12 E_12 G_12;obtain ⟨sgn,q1,r1,s1,q2,r2,s2,rfl⟩:=hvr.lit;obtain ⟨⟨e0,e1,e2,f0,f1,f2⟩,HPP,HV,HKF⟩:=Bz T_13.out.rr T_13.out.k (Below.refl _ _) hvr (by omega);clear hvr;clear k13;obtain ⟨g0,g1,g2,_⟩:=T_13.out.ra.cells;obtain ⟨h0,h1,h2,_⟩:=T_13.out.rb.cells))
 obtain ⟨k0,k1,k2⟩:=HPP.out
 go_wp2
 exact bodyPost_ret (v:= .agg #[.bool sgn,.slice q1 r1 s1,.slice q2 r2 s2]) (by simp [results,Tryz.results114,go_sem,k0,k1,k2]) rfl ⟨_,rfl,HV.out,HKF.out⟩
set_option maxRecDepth 20000 in
theorem OY {w:World} {u:Value} {x:Rat} (hu:Ax w u x) {v:Value} {y:Rat} (hv:Ax w v y) {j k:Nat} (hs:RSz j x) (ht:RSz k y) (hj:j≤500000000) (hk:k≤500000000) (h0:x≠0) (h1:y≠0) (hs9:decide (y.num<0)=!decide (x.num<0)) (hlt:x.num.natAbs*y.den<y.num.natAbs*x.den):
  Calls Tryz.prog 114 #[u,v] w fun e w'=> ∃r,e= .returned r∧Ax w' r (x+y)∧Kp w w':=by
 have hres:AE (decide (y.num<0)) (y.num.natAbs*x.den-x.num.natAbs*y.den) (x.den*y.den)=x+y:=by
  have h:=F5 (decide (y.num<0)) (n:=y.num.natAbs) (m:=x.num.natAbs) y.den_nz x.den_nz (Nat.le_of_lt hlt)
  rw [Nat.mul_comm x.den,←h,Bx,show (!decide (y.num<0))=decide (x.num<0) by rw [hs9,Bool.not_not],Bx,Rat.add_comm]
 rw [←hres]
 clear hres
 have hd0:x.den*y.den≠0:=Nat.mul_ne_zero x.den_nz y.den_nz
 have SA:Sz (j+k) (x.num.natAbs*y.den):=hs.1.mul ht.2
 have SB:Sz (k+j) (y.num.natAbs*x.den):=ht.1.mul hs.2
 have SD:Sz (j+k) (x.den*y.den):=hs.2.mul ht.2
 have SZ:Sz (j+k) (y.num.natAbs*x.den-x.num.natAbs*y.den):=(by rw [Nat.add_comm k j] at SB;exact SB.le (Nat.sub_le _ _))
 obtain ⟨a1,l1,c1,a2,l2,c2,rfl,m1,m2⟩:=hu.parts
 obtain ⟨a3,l3,c3,a4,l4,c4,rfl,m3,m4⟩:=hv.parts
 have HT:=Yt (Two.new w (.bool (decide (x.num<0))) (.slice a1 l1 c1) (.slice a2 l2 c2) (.bool (decide (y.num<0))) (.slice a3 l3 c3) (.slice a4 l4 c4))
 have HU:=Yt hu
 have Hm1:=Yt m1
 have Hm2:=Yt m2
 have HV:=Yt hv
 have Hm3:=Yt m3
 have Hm4:=Yt m4
 have CDA:=Yt (fun w' (a:M w' (.slice a1 l1 c1) x.num.natAbs) (b:M w' (.slice a2 l2 c2) (AX x))=>EW (s:=decide (x.num<0)) a b)
 have CDB:=Yt (fun w' (a:M w' (.slice a3 l3 c3) y.num.natAbs) (b:M w' (.slice a4 l4 c4) (AX y))=>EW (s:=decide (y.num<0)) a b)
 have CM1:=Yt (fun w' va vb (a:M w' va (x.num.natAbs)) (b:M w' vb (y.den))=>Co a b hs.1 ht.2 (by omega) (by omega))
 have CM2:=Yt (fun w' va vb (a:M w' va (y.num.natAbs)) (b:M w' vb (x.den))=>Co a b ht.1 hs.2 (by omega) (by omega))
 have CM3:=Yt (fun w' va vb (a:M w' va (x.den)) (b:M w' vb (y.den))=>Co a b hs.2 ht.2 (by omega) (by omega))
 have CC:=Yt (fun w' va vb (a:M w' va (x.num.natAbs*y.den)) (b:M w' vb (y.num.natAbs*x.den))=>CO va vb _ _ w' a b)
 have CZ:=Yt (fun w' va vb (a:M w' va (y.num.natAbs*x.den)) (b:M w' vb (x.num.natAbs*y.den))=>Nd va vb _ _ w' a b (by unfold Sz at SB;omega) (Nat.le_of_lt hlt))
 have CR:=Yt (fun w' s va vb (a:M w' va (y.num.natAbs*x.den-x.num.natAbs*y.den)) (b:M w' vb (x.den*y.den))=>Fj (neg:=s) a b SZ SD (by omega) (by omega) hd0)
 obtain ⟨p,hp⟩: ∃b,b=decide (x.num<0):=⟨_,rfl⟩
 try rw [←hp] at HT
 try rw [←hp] at HU
 try rw [←hp] at Hm1
 try rw [←hp] at Hm2
 try rw [←hp] at HV
 try rw [←hp] at Hm3
 try rw [←hp] at Hm4
 try rw [←hp] at CDA
 try rw [←hp] at CDB
 try rw [←hp] at CM1
 try rw [←hp] at CM2
 try rw [←hp] at CM3
 try rw [←hp] at CC
 try rw [←hp] at CZ
 try rw [←hp] at CR
 try rw [←hp]
 have HPp:=Yt hp
 obtain ⟨q,hq⟩: ∃b,b=decide (y.num<0):=⟨_,rfl⟩
 try rw [←hq] at HT
 try rw [←hq] at HU
 try rw [←hq] at Hm1
 try rw [←hq] at Hm2
 try rw [←hq] at HV
 try rw [←hq] at Hm3
 try rw [←hq] at Hm4
 try rw [←hq] at CDA
 try rw [←hq] at CDB
 try rw [←hq] at CM1
 try rw [←hq] at CM2
 try rw [←hq] at CM3
 try rw [←hq] at CC
 try rw [←hq] at CZ
 try rw [←hq] at CR
 try rw [←hq]
 have HPq:=Yt hq
 clear hu m1 m2 hp hv m3 m4 hq
 have hl1:0<l1:=by have:=Ch Hm1.out;have:x.num.natAbs≠0:=fun e=>h0 (Rat.num_eq_zero.1 (Int.natAbs_eq_zero.1 e));omega
 have hl1z:((l1:Int)==0)=false:=beq_eq_false_iff_ne.2 (by omega)
 have hl3:0<l3:=by have:=Ch Hm3.out;have:y.num.natAbs≠0:=fun e=>h1 (Rat.num_eq_zero.1 (Int.natAbs_eq_zero.1 e));omega
 have hl3z:((l3:Int)==0)=false:=beq_eq_false_iff_ne.2 (by omega)
 have hpq:q=!p:=by rw [HPp.out,HPq.out,hs9]
 subst hpq
 have hpn:(p==!p)=false:=by cases p<;>rfl
 have hpn2:(p=!p)=False:=by cases p<;>simp
 obtain ⟨cc,hcc⟩: ∃c,c=BZ (x.num.natAbs*y.den) (y.num.natAbs*x.den):=⟨_,rfl⟩
 rw [←hcc] at CC
 have hcd:decide (cc<0)=true:=by rw [hcc];exact decide_eq_true (by rw [CY hlt];decide)
 clear hcc hlt
 clear SA SB SD SZ hd0 h0 h1 hs9 hs ht hj hk
 go_enter Tryz.func114,Tryz.ntmps114
 have KN:=HT.out.k
 have U_e:=Yt (HU.out.kp KN)
 have m1_e:=Yt (Hm1.out.kp KN)
 have m2_e:=Yt (Hm2.out.kp KN)
 have V_e:=Yt (HV.out.kp KN)
 have m3_e:=Yt (Hm3.out.kp KN)
 have m4_e:=Yt (Hm4.out.kp KN)
 clear KN
 obtain ⟨g0,g1,g2,_⟩:=HT.out.ra.cells
 obtain ⟨h0,h1,h2,_⟩:=HT.out.rb.cells
 go_upto_region 5 with fail
 have T_2:=Yt (HT.out.kp (Below.refl _ _).drew)
 have U_2:=Yt (U_e.out.kp (Below.refl _ _).drew)
 have m1_2:=Yt (m1_e.out.kp (Below.refl _ _).drew)
 have m2_2:=Yt (m2_e.out.kp (Below.refl _ _).drew)
 have V_2:=Yt (V_e.out.kp (Below.refl _ _).drew)
 have m3_2:=Yt (m3_e.out.kp (Below.refl _ _).drew)
 have m4_2:=Yt (m4_e.out.kp (Below.refl _ _).drew)
 clear HT U_e m1_e m2_e V_e m3_e m4_e
 go_region_held3 (fun w'=>w'.cell? ⟨w.heap.size,0,none⟩=some (.bool p)∧w'.cell? ⟨w.heap.size,1,none⟩=some (.slice a1 l1 c1)∧w'.cell? ⟨w.heap.size,2,none⟩=some (.slice a2 l2 c2)∧w'.cell? ⟨w.heap.size+1,0,none⟩=some (.bool (!p))∧w'.cell? ⟨w.heap.size+1,1,none⟩=some (.slice a3 l3 c3)∧w'.cell? ⟨w.heap.size+1,2,none⟩=some (.slice a4 l4 c4))
  (first|(refine ⟨?_,?_,?_,?_,?_,?_⟩<;>assumption)|go_keep)
  (first
   | (go_at_call 128;(with_reducible refine (CDB.out _ m3_2.out m4_2.out).mono ?_);rintro e w3 ⟨vB,rfl,hB,k3⟩;have T_3:=Yt (T_2.out.kp k3);have U_3:=Yt (U_2.out.kp k3);have m1_3:=Yt (m1_2.out.kp k3);have m2_3:=Yt (m2_2.out.kp k3);have V_3:=Yt (V_2.out.kp k3);have m3_3:=Yt (m3_2.out.kp k3);have m4_3:=Yt (m4_2.out.kp k3);clear T_2 U_2 m1_2 m2_2 V_2 m3_2 m4_2;have B_3:=Yt hB;clear hB k3;obtain ⟨g0,g1,g2,_⟩:=T_3.out.ra.cells;obtain ⟨h0,h1,h2,_⟩:=T_3.out.rb.cells)
   | (go_at_call 127;(with_reducible refine (CM1.out _ _ _ m1_3.out B_3.out).mono ?_);rintro e w4 ⟨vC,rfl,hC,k4⟩;have T_4:=Yt (T_3.out.kp k4);have U_4:=Yt (U_3.out.kp k4);have m1_4:=Yt (m1_3.out.kp k4);have m2_4:=Yt (m2_3.out.kp k4);have V_4:=Yt (V_3.out.kp k4);have m3_4:=Yt (m3_3.out.kp k4);have m4_4:=Yt (m4_3.out.kp k4);have B_4:=Yt (B_3.out.kp k4);clear T_3 U_3 m1_3 m2_3 V_3 m3_3 m4_3 B_3;have C_4:=Yt hC;clear hC k4;obtain ⟨g0,g1,g2,_⟩:=T_4.out.ra.cells;obtain ⟨h0,h1,h2,_⟩:=T_4.out.rb.cells)
   | (go_at_call 128;(with_reducible refine (CDA.out _ m1_4.out m2_4.out).mono ?_);rintro e w5 ⟨vA,rfl,hA,k5⟩;have T_5:=Yt (T_4.out.kp k5);have U_5:=Yt (U_4.out.kp k5);have m1_5:=Yt (m1_4.out.kp k5);have m2_5:=Yt (m2_4.out.kp k5);have V_5:=Yt (V_4.out.kp k5);have m3_5:=Yt (m3_4.out.kp k5);have m4_5:=Yt (m4_4.out.kp k5);have B_5:=Yt (B_4.out.kp k5);have C_5:=Yt (C_4.out.kp k5);clear T_4 U_4 m1_4 m2_4 V_4 m3_4 m4_4 B_4 C_4;have A_5:=Yt hA;clear hA k5;obtain ⟨g0,g1,g2,_⟩:=T_5.out.ra.cells;obtain ⟨h0,h1,h2,_⟩:=T_5.out.rb.cells)
   | (go_at_call 127;(with_reducible refine (CM2.out _ _ _ m3_5.out A_5.out).mono ?_);rintro e w6 ⟨vD,rfl,hD,k6⟩;have T_6:=Yt (T_5.out.kp k6);have U_6:=Yt (U_5.out.kp k6);have m1_6:=Yt (m1_5.out.kp k6);have m2_6:=Yt (m2_5.out.kp k6);have V_6:=Yt (V_5.out.kp k6);have m3_6:=Yt (m3_5.out.kp k6);have m4_6:=Yt (m4_5.out.kp k6);have B_6:=Yt (B_5.out.kp k6);have C_6:=Yt (C_5.out.kp k6);have A_6:=Yt (A_5.out.kp k6);clear T_5 U_5 m1_5 m2_5 V_5 m3_5 m4_5 B_5 C_5 A_5;have D_6:=Yt hD;clear hD k6;obtain ⟨g0,g1,g2,_⟩:=T_6.out.ra.cells;obtain ⟨h0,h1,h2,_⟩:=T_6.out.rb.cells))
 go_upto_region 6 with fail
 have T_7:=Yt (T_6.out.kp (Below.refl _ _).drew)
 have U_7:=Yt (U_6.out.kp (Below.refl _ _).drew)
 have m1_7:=Yt (m1_6.out.kp (Below.refl _ _).drew)
 have m2_7:=Yt (m2_6.out.kp (Below.refl _ _).drew)
 have V_7:=Yt (V_6.out.kp (Below.refl _ _).drew)
 have m3_7:=Yt (m3_6.out.kp (Below.refl _ _).drew)
 have m4_7:=Yt (m4_6.out.kp (Below.refl _ _).drew)
 have B_7:=Yt (B_6.out.kp (Below.refl _ _).drew)
 have C_7:=Yt (C_6.out.kp (Below.refl _ _).drew)
 have A_7:=Yt (A_6.out.kp (Below.refl _ _).drew)
 have D_7:=Yt (D_6.out.kp (Below.refl _ _).drew)
 clear T_6 U_6 m1_6 m2_6 V_6 m3_6 m4_6 B_6 C_6 A_6 D_6
 go_region_held3 (fun w'=>w'.cell? ⟨w.heap.size,0,none⟩=some (.bool p)∧w'.cell? ⟨w.heap.size,1,none⟩=some (.slice a1 l1 c1)∧w'.cell? ⟨w.heap.size,2,none⟩=some (.slice a2 l2 c2)∧w'.cell? ⟨w.heap.size+1,0,none⟩=some (.bool (!p))∧w'.cell? ⟨w.heap.size+1,1,none⟩=some (.slice a3 l3 c3)∧w'.cell? ⟨w.heap.size+1,2,none⟩=some (.slice a4 l4 c4))
  (first|(refine ⟨?_,?_,?_,?_,?_,?_⟩<;>assumption)|go_keep)
  (first
   | (go_at_call 128;(with_reducible refine (CDA.out _ m1_7.out m2_7.out).mono ?_);rintro e w8 ⟨vA2,rfl,hA2,k8⟩;have T_8:=Yt (T_7.out.kp k8);have U_8:=Yt (U_7.out.kp k8);have m1_8:=Yt (m1_7.out.kp k8);have m2_8:=Yt (m2_7.out.kp k8);have V_8:=Yt (V_7.out.kp k8);have m3_8:=Yt (m3_7.out.kp k8);have m4_8:=Yt (m4_7.out.kp k8);have B_8:=Yt (B_7.out.kp k8);have C_8:=Yt (C_7.out.kp k8);have A_8:=Yt (A_7.out.kp k8);have D_8:=Yt (D_7.out.kp k8);clear T_7 U_7 m1_7 m2_7 V_7 m3_7 m4_7 B_7 C_7 A_7 D_7;have A2_8:=Yt hA2;clear hA2 k8;obtain ⟨g0,g1,g2,_⟩:=T_8.out.ra.cells;obtain ⟨h0,h1,h2,_⟩:=T_8.out.rb.cells)
   | (go_at_call 128;(with_reducible refine (CDB.out _ m3_8.out m4_8.out).mono ?_);rintro e w9 ⟨vB2,rfl,hB2,k9⟩;have T_9:=Yt (T_8.out.kp k9);have U_9:=Yt (U_8.out.kp k9);have m1_9:=Yt (m1_8.out.kp k9);have m2_9:=Yt (m2_8.out.kp k9);have V_9:=Yt (V_8.out.kp k9);have m3_9:=Yt (m3_8.out.kp k9);have m4_9:=Yt (m4_8.out.kp k9);have B_9:=Yt (B_8.out.kp k9);have C_9:=Yt (C_8.out.kp k9);have A_9:=Yt (A_8.out.kp k9);have D_9:=Yt (D_8.out.kp k9);have A2_9:=Yt (A2_8.out.kp k9);clear T_8 U_8 m1_8 m2_8 V_8 m3_8 m4_8 B_8 C_8 A_8 D_8 A2_8;have B2_9:=Yt hB2;clear hB2 k9;obtain ⟨g0,g1,g2,_⟩:=T_9.out.ra.cells;obtain ⟨h0,h1,h2,_⟩:=T_9.out.rb.cells)
   | (go_at_call 127;(with_reducible refine (CM3.out _ _ _ A2_9.out B2_9.out).mono ?_);rintro e w10 ⟨vE,rfl,hE,k10⟩;have T_10:=Yt (T_9.out.kp k10);have U_10:=Yt (U_9.out.kp k10);have m1_10:=Yt (m1_9.out.kp k10);have m2_10:=Yt (m2_9.out.kp k10);have V_10:=Yt (V_9.out.kp k10);have m3_10:=Yt (m3_9.out.kp k10);have m4_10:=Yt (m4_9.out.kp k10);have B_10:=Yt (B_9.out.kp k10);have C_10:=Yt (C_9.out.kp k10);have A_10:=Yt (A_9.out.kp k10);have D_10:=Yt (D_9.out.kp k10);have A2_10:=Yt (A2_9.out.kp k10);have B2_10:=Yt (B2_9.out.kp k10);clear T_9 U_9 m1_9 m2_9 V_9 m3_9 m4_9 B_9 C_9 A_9 D_9 A2_9 B2_9;have E_10:=Yt hE;clear hE k10;obtain ⟨g0,g1,g2,_⟩:=T_10.out.ra.cells;obtain ⟨h0,h1,h2,_⟩:=T_10.out.rb.cells))
 go_wp2_with (go_at_call 88;(with_reducible refine (CC.out _ _ _ C_10.out D_10.out).mono ?_);rintro e w11 ⟨rfl,k11⟩;refine Hid.out ?_)
 refine Yt ?_
 have T_11:=Yt (T_10.out.kp k11)
 have U_11:=Yt (U_10.out.kp k11)
 have m1_11:=Yt (m1_10.out.kp k11)
 have m2_11:=Yt (m2_10.out.kp k11)
 have V_11:=Yt (V_10.out.kp k11)
 have m3_11:=Yt (m3_10.out.kp k11)
 have m4_11:=Yt (m4_10.out.kp k11)
 have B_11:=Yt (B_10.out.kp k11)
 have C_11:=Yt (C_10.out.kp k11)
 have A_11:=Yt (A_10.out.kp k11)
 have D_11:=Yt (D_10.out.kp k11)
 have A2_11:=Yt (A2_10.out.kp k11)
 have B2_11:=Yt (B2_10.out.kp k11)
 have E_11:=Yt (E_10.out.kp k11)
 clear T_10 U_10 m1_10 m2_10 V_10 m3_10 m4_10 B_10 C_10 A_10 D_10 A2_10 B2_10 E_10
 clear k11
 obtain ⟨g0,g1,g2,_⟩:=T_11.out.ra.cells
 obtain ⟨h0,h1,h2,_⟩:=T_11.out.rb.cells
 go_wp2_with (go_at_call 184;(with_reducible refine (CZ.out _ _ _ D_11.out C_11.out).mono ?_);rintro e w12 ⟨vG,rfl,hG,k12⟩;refine Hid.out ?_)
 refine Yt ?_
 have T_12:=Yt (T_11.out.kp k12)
 have U_12:=Yt (U_11.out.kp k12)
 have m1_12:=Yt (m1_11.out.kp k12)
 have m2_12:=Yt (m2_11.out.kp k12)
 have V_12:=Yt (V_11.out.kp k12)
 have m3_12:=Yt (m3_11.out.kp k12)
 have m4_12:=Yt (m4_11.out.kp k12)
 have B_12:=Yt (B_11.out.kp k12)
 have C_12:=Yt (C_11.out.kp k12)
 have A_12:=Yt (A_11.out.kp k12)
 have D_12:=Yt (D_11.out.kp k12)
 have A2_12:=Yt (A2_11.out.kp k12)
 have B2_12:=Yt (B2_11.out.kp k12)
 have E_12:=Yt (E_11.out.kp k12)
 clear T_11 U_11 m1_11 m2_11 V_11 m3_11 m4_11 B_11 C_11 A_11 D_11 A2_11 B2_11 E_11
 have G_12:=Yt hG
 clear hG k12
 obtain ⟨g0,g1,g2,_⟩:=T_12.out.ra.cells
 obtain ⟨h0,h1,h2,_⟩:=T_12.out.rb.cells
 go_wp2_with (go_at_call 126;(with_reducible refine (CR.out _ _ _ _ G_12.out E_12.out).mono ?_);rintro e w13 ⟨vr,rfl,hvr,k13⟩;refine Hid.out ?_)
 refine Yt ?_
 have T_13:=Yt (T_12.out.kp k13)
 have U_13:=Yt (U_12.out.kp k13)
 have m1_13:=Yt (m1_12.out.kp k13)
 have m2_13:=Yt (m2_12.out.kp k13)
 have V_13:=Yt (V_12.out.kp k13)
 have m3_13:=Yt (m3_12.out.kp k13)
 have m4_13:=Yt (m4_12.out.kp k13)
 have B_13:=Yt (B_12.out.kp k13)
 have C_13:=Yt (C_12.out.kp k13)
 have A_13:=Yt (A_12.out.kp k13)
 have D_13:=Yt (D_12.out.kp k13)
 have A2_13:=Yt (A2_12.out.kp k13)
 have B2_13:=Yt (B2_12.out.kp k13)
 have E_13:=Yt (E_12.out.kp k13)
 have G_13:=Yt (G_12.out.kp k13)
 clear T_12 U_12 m1_12 m2_12 V_12 m3_12 m4_12 B_12 C_12 A_12 D_12 A2_12 B2_12 E_12 G_12
 clear k13
 obtain ⟨sgn,q1,r1,s1,q2,r2,s2,rfl⟩:=hvr.lit
 obtain ⟨⟨e0,e1,e2,f0,f1,f2⟩,HPP,HV,HKF⟩:=Bz T_13.out.rr T_13.out.k (Below.refl _ _) hvr (by omega)
 clear hvr
 obtain ⟨k0,k1,k2⟩:=HPP.out
 go_wp2
 exact bodyPost_ret (v:= .agg #[.bool sgn,.slice q1 r1 s1,.slice q2 r2 s2]) (by simp [results,Tryz.results114,go_sem,k0,k1,k2]) rfl ⟨_,rfl,HV.out,HKF.out⟩
set_option maxRecDepth 20000 in
theorem OX {w:World} {u:Value} {x:Rat} (hu:Ax w u x) {v:Value} {y:Rat} (hv:Ax w v y) {j k:Nat} (hs:RSz j x) (ht:RSz k y) (hj:j≤500000000) (hk:k≤500000000) (h0:x≠0) (h1:y≠0) (hs9:decide (y.num<0)=!decide (x.num<0)) (hlt: ¬x.num.natAbs*y.den<y.num.natAbs*x.den):
  Calls Tryz.prog 114 #[u,v] w fun e w'=> ∃r,e= .returned r∧Ax w' r (x+y)∧Kp w w':=by
 have hres:AE (decide (x.num<0)) (x.num.natAbs*y.den-y.num.natAbs*x.den) (x.den*y.den)=x+y:=by
  have h:=F5 (decide (x.num<0)) (n:=x.num.natAbs) (m:=y.num.natAbs) x.den_nz y.den_nz (Nat.not_lt.1 hlt)
  rw [←h,Bx,←hs9,Bx]
 rw [←hres]
 clear hres
 have hd0:x.den*y.den≠0:=Nat.mul_ne_zero x.den_nz y.den_nz
 have SA:Sz (j+k) (x.num.natAbs*y.den):=hs.1.mul ht.2
 have SB:Sz (k+j) (y.num.natAbs*x.den):=ht.1.mul hs.2
 have SD:Sz (j+k) (x.den*y.den):=hs.2.mul ht.2
 have SZ:Sz (j+k) (x.num.natAbs*y.den-y.num.natAbs*x.den):=SA.le (Nat.sub_le _ _)
 obtain ⟨a1,l1,c1,a2,l2,c2,rfl,m1,m2⟩:=hu.parts
 obtain ⟨a3,l3,c3,a4,l4,c4,rfl,m3,m4⟩:=hv.parts
 have HT:=Yt (Two.new w (.bool (decide (x.num<0))) (.slice a1 l1 c1) (.slice a2 l2 c2) (.bool (decide (y.num<0))) (.slice a3 l3 c3) (.slice a4 l4 c4))
 have HU:=Yt hu
 have Hm1:=Yt m1
 have Hm2:=Yt m2
 have HV:=Yt hv
 have Hm3:=Yt m3
 have Hm4:=Yt m4
 have CDA:=Yt (fun w' (a:M w' (.slice a1 l1 c1) x.num.natAbs) (b:M w' (.slice a2 l2 c2) (AX x))=>EW (s:=decide (x.num<0)) a b)
 have CDB:=Yt (fun w' (a:M w' (.slice a3 l3 c3) y.num.natAbs) (b:M w' (.slice a4 l4 c4) (AX y))=>EW (s:=decide (y.num<0)) a b)
 have CM1:=Yt (fun w' va vb (a:M w' va (x.num.natAbs)) (b:M w' vb (y.den))=>Co a b hs.1 ht.2 (by omega) (by omega))
 have CM2:=Yt (fun w' va vb (a:M w' va (y.num.natAbs)) (b:M w' vb (x.den))=>Co a b ht.1 hs.2 (by omega) (by omega))
 have CM3:=Yt (fun w' va vb (a:M w' va (x.den)) (b:M w' vb (y.den))=>Co a b hs.2 ht.2 (by omega) (by omega))
 have CC:=Yt (fun w' va vb (a:M w' va (x.num.natAbs*y.den)) (b:M w' vb (y.num.natAbs*x.den))=>CO va vb _ _ w' a b)
 have CZ:=Yt (fun w' va vb (a:M w' va (x.num.natAbs*y.den)) (b:M w' vb (y.num.natAbs*x.den))=>Nd va vb _ _ w' a b (by unfold Sz at SA;omega) (Nat.not_lt.1 hlt))
 have CR:=Yt (fun w' s va vb (a:M w' va (x.num.natAbs*y.den-y.num.natAbs*x.den)) (b:M w' vb (x.den*y.den))=>Fj (neg:=s) a b SZ SD (by omega) (by omega) hd0)
 obtain ⟨p,hp⟩: ∃b,b=decide (x.num<0):=⟨_,rfl⟩
 try rw [←hp] at HT
 try rw [←hp] at HU
 try rw [←hp] at Hm1
 try rw [←hp] at Hm2
 try rw [←hp] at HV
 try rw [←hp] at Hm3
 try rw [←hp] at Hm4
 try rw [←hp] at CDA
 try rw [←hp] at CDB
 try rw [←hp] at CM1
 try rw [←hp] at CM2
 try rw [←hp] at CM3
 try rw [←hp] at CC
 try rw [←hp] at CZ
 try rw [←hp] at CR
 try rw [←hp]
 have HPp:=Yt hp
 obtain ⟨q,hq⟩: ∃b,b=decide (y.num<0):=⟨_,rfl⟩
 try rw [←hq] at HT
 try rw [←hq] at HU
 try rw [←hq] at Hm1
 try rw [←hq] at Hm2
 try rw [←hq] at HV
 try rw [←hq] at Hm3
 try rw [←hq] at Hm4
 try rw [←hq] at CDA
 try rw [←hq] at CDB
 try rw [←hq] at CM1
 try rw [←hq] at CM2
 try rw [←hq] at CM3
 try rw [←hq] at CC
 try rw [←hq] at CZ
 try rw [←hq] at CR
 try rw [←hq]
 have HPq:=Yt hq
 clear hu m1 m2 hp hv m3 m4 hq
 have hl1:0<l1:=by have:=Ch Hm1.out;have:x.num.natAbs≠0:=fun e=>h0 (Rat.num_eq_zero.1 (Int.natAbs_eq_zero.1 e));omega
 have hl1z:((l1:Int)==0)=false:=beq_eq_false_iff_ne.2 (by omega)
 have hl3:0<l3:=by have:=Ch Hm3.out;have:y.num.natAbs≠0:=fun e=>h1 (Rat.num_eq_zero.1 (Int.natAbs_eq_zero.1 e));omega
 have hl3z:((l3:Int)==0)=false:=beq_eq_false_iff_ne.2 (by omega)
 have hpq:q=!p:=by rw [HPp.out,HPq.out,hs9]
 subst hpq
 have hpn:(p==!p)=false:=by cases p<;>rfl
 have hpn2:(p=!p)=False:=by cases p<;>simp
 obtain ⟨cc,hcc⟩: ∃c,c=BZ (x.num.natAbs*y.den) (y.num.natAbs*x.den):=⟨_,rfl⟩
 rw [←hcc] at CC
 have hcd:decide (cc<0)=false:=by rw [hcc];exact decide_eq_false (by unfold BZ;split<;>first|omega|(split<;>omega))
 clear hcc hlt
 clear SA SB SD SZ hd0 h0 h1 hs9 hs ht hj hk
 go_enter Tryz.func114,Tryz.ntmps114
 have KN:=HT.out.k
 have U_e:=Yt (HU.out.kp KN)
 have m1_e:=Yt (Hm1.out.kp KN)
 have m2_e:=Yt (Hm2.out.kp KN)
 have V_e:=Yt (HV.out.kp KN)
 have m3_e:=Yt (Hm3.out.kp KN)
 have m4_e:=Yt (Hm4.out.kp KN)
 clear KN
 obtain ⟨g0,g1,g2,_⟩:=HT.out.ra.cells
 obtain ⟨h0,h1,h2,_⟩:=HT.out.rb.cells
 go_upto_region 5 with fail
 have T_2:=Yt (HT.out.kp (Below.refl _ _).drew)
 have U_2:=Yt (U_e.out.kp (Below.refl _ _).drew)
 have m1_2:=Yt (m1_e.out.kp (Below.refl _ _).drew)
 have m2_2:=Yt (m2_e.out.kp (Below.refl _ _).drew)
 have V_2:=Yt (V_e.out.kp (Below.refl _ _).drew)
 have m3_2:=Yt (m3_e.out.kp (Below.refl _ _).drew)
 have m4_2:=Yt (m4_e.out.kp (Below.refl _ _).drew)
 clear HT U_e m1_e m2_e V_e m3_e m4_e
 go_region_held3 (fun w'=>w'.cell? ⟨w.heap.size,0,none⟩=some (.bool p)∧w'.cell? ⟨w.heap.size,1,none⟩=some (.slice a1 l1 c1)∧w'.cell? ⟨w.heap.size,2,none⟩=some (.slice a2 l2 c2)∧w'.cell? ⟨w.heap.size+1,0,none⟩=some (.bool (!p))∧w'.cell? ⟨w.heap.size+1,1,none⟩=some (.slice a3 l3 c3)∧w'.cell? ⟨w.heap.size+1,2,none⟩=some (.slice a4 l4 c4))
  (first|(refine ⟨?_,?_,?_,?_,?_,?_⟩<;>assumption)|go_keep)
  (first
   | (go_at_call 128;(with_reducible refine (CDB.out _ m3_2.out m4_2.out).mono ?_);rintro e w3 ⟨vB,rfl,hB,k3⟩;have T_3:=Yt (T_2.out.kp k3);have U_3:=Yt (U_2.out.kp k3);have m1_3:=Yt (m1_2.out.kp k3);have m2_3:=Yt (m2_2.out.kp k3);have V_3:=Yt (V_2.out.kp k3);have m3_3:=Yt (m3_2.out.kp k3);have m4_3:=Yt (m4_2.out.kp k3);clear T_2 U_2 m1_2 m2_2 V_2 m3_2 m4_2;have B_3:=Yt hB;clear hB k3;obtain ⟨g0,g1,g2,_⟩:=T_3.out.ra.cells;obtain ⟨h0,h1,h2,_⟩:=T_3.out.rb.cells)
   | (go_at_call 127;(with_reducible refine (CM1.out _ _ _ m1_3.out B_3.out).mono ?_);rintro e w4 ⟨vC,rfl,hC,k4⟩;have T_4:=Yt (T_3.out.kp k4);have U_4:=Yt (U_3.out.kp k4);have m1_4:=Yt (m1_3.out.kp k4);have m2_4:=Yt (m2_3.out.kp k4);have V_4:=Yt (V_3.out.kp k4);have m3_4:=Yt (m3_3.out.kp k4);have m4_4:=Yt (m4_3.out.kp k4);have B_4:=Yt (B_3.out.kp k4);clear T_3 U_3 m1_3 m2_3 V_3 m3_3 m4_3 B_3;have C_4:=Yt hC;clear hC k4;obtain ⟨g0,g1,g2,_⟩:=T_4.out.ra.cells;obtain ⟨h0,h1,h2,_⟩:=T_4.out.rb.cells)
   | (go_at_call 128;(with_reducible refine (CDA.out _ m1_4.out m2_4.out).mono ?_);rintro e w5 ⟨vA,rfl,hA,k5⟩;have T_5:=Yt (T_4.out.kp k5);have U_5:=Yt (U_4.out.kp k5);have m1_5:=Yt (m1_4.out.kp k5);have m2_5:=Yt (m2_4.out.kp k5);have V_5:=Yt (V_4.out.kp k5);have m3_5:=Yt (m3_4.out.kp k5);have m4_5:=Yt (m4_4.out.kp k5);have B_5:=Yt (B_4.out.kp k5);have C_5:=Yt (C_4.out.kp k5);clear T_4 U_4 m1_4 m2_4 V_4 m3_4 m4_4 B_4 C_4;have A_5:=Yt hA;clear hA k5;obtain ⟨g0,g1,g2,_⟩:=T_5.out.ra.cells;obtain ⟨h0,h1,h2,_⟩:=T_5.out.rb.cells)
   | (go_at_call 127;(with_reducible refine (CM2.out _ _ _ m3_5.out A_5.out).mono ?_);rintro e w6 ⟨vD,rfl,hD,k6⟩;have T_6:=Yt (T_5.out.kp k6);have U_6:=Yt (U_5.out.kp k6);have m1_6:=Yt (m1_5.out.kp k6);have m2_6:=Yt (m2_5.out.kp k6);have V_6:=Yt (V_5.out.kp k6);have m3_6:=Yt (m3_5.out.kp k6);have m4_6:=Yt (m4_5.out.kp k6);have B_6:=Yt (B_5.out.kp k6);have C_6:=Yt (C_5.out.kp k6);have A_6:=Yt (A_5.out.kp k6);clear T_5 U_5 m1_5 m2_5 V_5 m3_5 m4_5 B_5 C_5 A_5;have D_6:=Yt hD;clear hD k6;obtain ⟨g0,g1,g2,_⟩:=T_6.out.ra.cells;obtain ⟨h0,h1,h2,_⟩:=T_6.out.rb.cells))
 go_upto_region 6 with fail
 have T_7:=Yt (T_6.out.kp (Below.refl _ _).drew)
 have U_7:=Yt (U_6.out.kp (Below.refl _ _).drew)
 have m1_7:=Yt (m1_6.out.kp (Below.refl _ _).drew)
 have m2_7:=Yt (m2_6.out.kp (Below.refl _ _).drew)
 have V_7:=Yt (V_6.out.kp (Below.refl _ _).drew)
 have m3_7:=Yt (m3_6.out.kp (Below.refl _ _).drew)
 have m4_7:=Yt (m4_6.out.kp (Below.refl _ _).drew)
 have B_7:=Yt (B_6.out.kp (Below.refl _ _).drew)
 have C_7:=Yt (C_6.out.kp (Below.refl _ _).drew)
 have A_7:=Yt (A_6.out.kp (Below.refl _ _).drew)
 have D_7:=Yt (D_6.out.kp (Below.refl _ _).drew)
 clear T_6 U_6 m1_6 m2_6 V_6 m3_6 m4_6 B_6 C_6 A_6 D_6
 go_region_held3 (fun w'=>w'.cell? ⟨w.heap.size,0,none⟩=some (.bool p)∧w'.cell? ⟨w.heap.size,1,none⟩=some (.slice a1 l1 c1)∧w'.cell? ⟨w.heap.size,2,none⟩=some (.slice a2 l2 c2)∧w'.cell? ⟨w.heap.size+1,0,none⟩=some (.bool (!p))∧w'.cell? ⟨w.heap.size+1,1,none⟩=some (.slice a3 l3 c3)∧w'.cell? ⟨w.heap.size+1,2,none⟩=some (.slice a4 l4 c4))
  (first|(refine ⟨?_,?_,?_,?_,?_,?_⟩<;>assumption)|go_keep)
  (first
   | (go_at_call 128;(with_reducible refine (CDA.out _ m1_7.out m2_7.out).mono ?_);rintro e w8 ⟨vA2,rfl,hA2,k8⟩;have T_8:=Yt (T_7.out.kp k8);have U_8:=Yt (U_7.out.kp k8);have m1_8:=Yt (m1_7.out.kp k8);have m2_8:=Yt (m2_7.out.kp k8);have V_8:=Yt (V_7.out.kp k8);have m3_8:=Yt (m3_7.out.kp k8);have m4_8:=Yt (m4_7.out.kp k8);have B_8:=Yt (B_7.out.kp k8);have C_8:=Yt (C_7.out.kp k8);have A_8:=Yt (A_7.out.kp k8);have D_8:=Yt (D_7.out.kp k8);clear T_7 U_7 m1_7 m2_7 V_7 m3_7 m4_7 B_7 C_7 A_7 D_7;have A2_8:=Yt hA2;clear hA2 k8;obtain ⟨g0,g1,g2,_⟩:=T_8.out.ra.cells;obtain ⟨h0,h1,h2,_⟩:=T_8.out.rb.cells)
   | (go_at_call 128;(with_reducible refine (CDB.out _ m3_8.out m4_8.out).mono ?_);rintro e w9 ⟨vB2,rfl,hB2,k9⟩;have T_9:=Yt (T_8.out.kp k9);have U_9:=Yt (U_8.out.kp k9);have m1_9:=Yt (m1_8.out.kp k9);have m2_9:=Yt (m2_8.out.kp k9);have V_9:=Yt (V_8.out.kp k9);have m3_9:=Yt (m3_8.out.kp k9);have m4_9:=Yt (m4_8.out.kp k9);have B_9:=Yt (B_8.out.kp k9);have C_9:=Yt (C_8.out.kp k9);have A_9:=Yt (A_8.out.kp k9);have D_9:=Yt (D_8.out.kp k9);have A2_9:=Yt (A2_8.out.kp k9);clear T_8 U_8 m1_8 m2_8 V_8 m3_8 m4_8 B_8 C_8 A_8 D_8 A2_8;have B2_9:=Yt hB2;clear hB2 k9;obtain ⟨g0,g1,g2,_⟩:=T_9.out.ra.cells;obtain ⟨h0,h1,h2,_⟩:=T_9.out.rb.cells)
   | (go_at_call 127;(with_reducible refine (CM3.out _ _ _ A2_9.out B2_9.out).mono ?_);rintro e w10 ⟨vE,rfl,hE,k10⟩;have T_10:=Yt (T_9.out.kp k10);have U_10:=Yt (U_9.out.kp k10);have m1_10:=Yt (m1_9.out.kp k10);have m2_10:=Yt (m2_9.out.kp k10);have V_10:=Yt (V_9.out.kp k10);have m3_10:=Yt (m3_9.out.kp k10);have m4_10:=Yt (m4_9.out.kp k10);have B_10:=Yt (B_9.out.kp k10);have C_10:=Yt (C_9.out.kp k10);have A_10:=Yt (A_9.out.kp k10);have D_10:=Yt (D_9.out.kp k10);have A2_10:=Yt (A2_9.out.kp k10);have B2_10:=Yt (B2_9.out.kp k10);clear T_9 U_9 m1_9 m2_9 V_9 m3_9 m4_9 B_9 C_9 A_9 D_9 A2_9 B2_9;have E_10:=Yt hE;clear hE k10;obtain ⟨g0,g1,g2,_⟩:=T_10.out.ra.cells;obtain ⟨h0,h1,h2,_⟩:=T_10.out.rb.cells))
 go_wp2_with (go_at_call 88;(with_reducible refine (CC.out _ _ _ C_10.out D_10.out).mono ?_);rintro e w11 ⟨rfl,k11⟩;refine Hid.out ?_)
 refine Yt ?_
 have T_11:=Yt (T_10.out.kp k11)
 have U_11:=Yt (U_10.out.kp k11)
 have m1_11:=Yt (m1_10.out.kp k11)
 have m2_11:=Yt (m2_10.out.kp k11)
 have V_11:=Yt (V_10.out.kp k11)
 have m3_11:=Yt (m3_10.out.kp k11)
 have m4_11:=Yt (m4_10.out.kp k11)
 have B_11:=Yt (B_10.out.kp k11)
 have C_11:=Yt (C_10.out.kp k11)
 have A_11:=Yt (A_10.out.kp k11)
 have D_11:=Yt (D_10.out.kp k11)
 have A2_11:=Yt (A2_10.out.kp k11)
 have B2_11:=Yt (B2_10.out.kp k11)
 have E_11:=Yt (E_10.out.kp k11)
 clear T_10 U_10 m1_10 m2_10 V_10 m3_10 m4_10 B_10 C_10 A_10 D_10 A2_10 B2_10 E_10
 clear k11
 obtain ⟨g0,g1,g2,_⟩:=T_11.out.ra.cells
 obtain ⟨h0,h1,h2,_⟩:=T_11.out.rb.cells
 go_wp2_with (go_at_call 184;(with_reducible refine (CZ.out _ _ _ C_11.out D_11.out).mono ?_);rintro e w12 ⟨vG,rfl,hG,k12⟩;refine Hid.out ?_)
 refine Yt ?_
 have T_12:=Yt (T_11.out.kp k12)
 have U_12:=Yt (U_11.out.kp k12)
 have m1_12:=Yt (m1_11.out.kp k12)
 have m2_12:=Yt (m2_11.out.kp k12)
 have V_12:=Yt (V_11.out.kp k12)
 have m3_12:=Yt (m3_11.out.kp k12)
 have m4_12:=Yt (m4_11.out.kp k12)
 have B_12:=Yt (B_11.out.kp k12)
 have C_12:=Yt (C_11.out.kp k12)
 have A_12:=Yt (A_11.out.kp k12)
 have D_12:=Yt (D_11.out.kp k12)
 have A2_12:=Yt (A2_11.out.kp k12)
 have B2_12:=Yt (B2_11.out.kp k12)
 have E_12:=Yt (E_11.out.kp k12)
 clear T_11 U_11 m1_11 m2_11 V_11 m3_11 m4_11 B_11 C_11 A_11 D_11 A2_11 B2_11 E_11
 have G_12:=Yt hG
 clear hG k12
 obtain ⟨g0,g1,g2,_⟩:=T_12.out.ra.cells
 obtain ⟨h0,h1,h2,_⟩:=T_12.out.rb.cells
 go_wp2_with (go_at_call 126;(with_reducible refine (CR.out _ _ _ _ G_12.out E_12.out).mono ?_);rintro e w13 ⟨vr,rfl,hvr,k13⟩;refine Hid.out ?_)
 refine Yt ?_
 have T_13:=Yt (T_12.out.kp k13)
 have U_13:=Yt (U_12.out.kp k13)
 have m1_13:=Yt (m1_12.out.kp k13)
 have m2_13:=Yt (m2_12.out.kp k13)
 have V_13:=Yt (V_12.out.kp k13)
 have m3_13:=Yt (m3_12.out.kp k13)
 have m4_13:=Yt (m4_12.out.kp k13)
 have B_13:=Yt (B_12.out.kp k13)
 have C_13:=Yt (C_12.out.kp k13)
 have A_13:=Yt (A_12.out.kp k13)
 have D_13:=Yt (D_12.out.kp k13)
 have A2_13:=Yt (A2_12.out.kp k13)
 have B2_13:=Yt (B2_12.out.kp k13)
 have E_13:=Yt (E_12.out.kp k13)
 have G_13:=Yt (G_12.out.kp k13)
 clear T_12 U_12 m1_12 m2_12 V_12 m3_12 m4_12 B_12 C_12 A_12 D_12 A2_12 B2_12 E_12 G_12
 clear k13
 obtain ⟨sgn,q1,r1,s1,q2,r2,s2,rfl⟩:=hvr.lit
 obtain ⟨⟨e0,e1,e2,f0,f1,f2⟩,HPP,HV,HKF⟩:=Bz T_13.out.rr T_13.out.k (Below.refl _ _) hvr (by omega)
 clear hvr
 obtain ⟨k0,k1,k2⟩:=HPP.out
 go_wp2
 exact bodyPost_ret (v:= .agg #[.bool sgn,.slice q1 r1 s1,.slice q2 r2 s2]) (by simp [results,Tryz.results114,go_sem,k0,k1,k2]) rfl ⟨_,rfl,HV.out,HKF.out⟩
theorem KF {w:World} {u:Value} {x:Rat} (hu:Ax w u x) {v:Value} {y:Rat} (hv:Ax w v y) {j k:Nat} (hs:RSz j x) (ht:RSz k y) (hj:j≤500000000) (hk:k≤500000000):
  Calls Tryz.prog 114 #[u,v] w fun e w'=> ∃r,e= .returned r∧Ax w' r (x+y)∧Kp w w':=by
 by_cases h0:x=0
 ·have:=OZ hu hv h0
  rw [h0,Rat.zero_add]
  exact this
 ·by_cases h1:y=0
  ·have:=Nf hu hv h1 h0
   rw [h1,Rat.add_zero]
   exact this
  ·by_cases hs9:decide (x.num<0)=decide (y.num<0)
   ·exact OW hu hv hs ht hj hk h0 h1 hs9
   ·have hn:decide (y.num<0)=!decide (x.num<0):=by
     generalize decide (x.num<0)=a at*
     generalize decide (y.num<0)=b at*
     cases a<;>cases b<;>simp_all
    by_cases hlt:x.num.natAbs*y.den<y.num.natAbs*x.den
    ·exact OY hu hv hs ht hj hk h0 h1 hn hlt
    ·exact OX hu hv hs ht hj hk h0 h1 hn hlt
theorem RF {w:World} {u:Value} {x:Rat} (hu:Ax w u x) {v:Value} {y:Rat} (hv:Ax w v y) {j k:Nat} (hs:RSz j x) (ht:RSz k y) (hj:j≤500000000) (hk:k≤500000000):
  Calls Tryz.prog 129 #[u,v] w fun e w'=> ∃r,e= .returned r∧Ax w' r (x-y)∧Kp w w':=by
 rw [Rat.sub_eq_add_neg]
 obtain ⟨a1,l1,c1,a2,l2,c2,rfl,m1,m2⟩:=hu.parts
 obtain ⟨a3,l3,c3,a4,l4,c4,rfl,m3,m4⟩:=hv.parts
 have HT:=Yt (Two.new w (.bool (decide (x.num<0))) (.slice a1 l1 c1) (.slice a2 l2 c2) (.bool (decide (y.num<0))) (.slice a3 l3 c3) (.slice a4 l4 c4))
 have HU:=Yt hu
 have HV:=Yt hv
 have CN:=Yt (fun w' a (ha:Ax w' a y)=>RG ha)
 have CA:=Yt (fun w' a b (ha:Ax w' a x) (hb:Ax w' b (-y))=>KF ha hb hs ht.neg hj hk)
 obtain ⟨p,hp⟩: ∃b,b=decide (x.num<0):=⟨_,rfl⟩
 try rw [←hp] at HT
 try rw [←hp] at HU
 try rw [←hp] at HV
 try rw [←hp] at CN
 try rw [←hp] at CA
 try rw [←hp]
 have HPp:=Yt hp
 obtain ⟨q,hq⟩: ∃b,b=decide (y.num<0):=⟨_,rfl⟩
 try rw [←hq] at HT
 try rw [←hq] at HU
 try rw [←hq] at HV
 try rw [←hq] at CN
 try rw [←hq] at CA
 try rw [←hq]
 have HPq:=Yt hq
 clear hu m1 m2 hp hv m3 m4 hq
 go_enter Tryz.func129,Tryz.ntmps129
 have KN:=HT.out.k
 have U_e:=Yt (HU.out.kp KN)
 have V_e:=Yt (HV.out.kp KN)
 clear KN
 obtain ⟨g0,g1,g2,_⟩:=HT.out.ra.cells
 obtain ⟨h0,h1,h2,_⟩:=HT.out.rb.cells
 have n1: ¬(w.heap.size+1+1=w.heap.size):=by omega
 have n2: ¬(w.heap.size=w.heap.size+1+1):=by omega
 go_wp2_with fail
 have T_2:=Yt (HT.out.kp (Below.refl _ _).drew)
 have U_2:=Yt (U_e.out.kp (Below.refl _ _).drew)
 have V_2:=Yt (V_e.out.kp (Below.refl _ _).drew)
 clear HT U_e V_e
 go_region_held3 (fun w'=>w'.cell? ⟨w.heap.size,0,none⟩=some (.bool p)∧w'.cell? ⟨w.heap.size,1,none⟩=some (.slice a1 l1 c1)∧w'.cell? ⟨w.heap.size,2,none⟩=some (.slice a2 l2 c2)∧w'.cell? ⟨w.heap.size+1,0,none⟩=some (.bool q)∧w'.cell? ⟨w.heap.size+1,1,none⟩=some (.slice a3 l3 c3)∧w'.cell? ⟨w.heap.size+1,2,none⟩=some (.slice a4 l4 c4))
  (first|(refine ⟨?_,?_,?_,?_,?_,?_⟩<;>assumption)|go_keep)
  (first
   | (go_at_call 197;(with_reducible refine (CN.out _ _ V_2.out).mono ?_);rintro e w3 ⟨vn,rfl,hvn,k3⟩;have T_3:=Yt (T_2.out.kp k3);have U_3:=Yt (U_2.out.kp k3);have V_3:=Yt (V_2.out.kp k3);clear T_2 U_2 V_2;have N_3:=Yt hvn;clear hvn k3;obtain ⟨g0,g1,g2,_⟩:=T_3.out.ra.cells;obtain ⟨h0,h1,h2,_⟩:=T_3.out.rb.cells)
   | (go_at_call 114;(with_reducible refine (CA.out _ _ _ U_3.out N_3.out).mono ?_);rintro e w4 ⟨vr,rfl,hvr,k4⟩;have T_4:=Yt (T_3.out.kp k4);have U_4:=Yt (U_3.out.kp k4);have V_4:=Yt (V_3.out.kp k4);have N_4:=Yt (N_3.out.kp k4);clear T_3 U_3 V_3 N_3;obtain ⟨sgn,q1,r1,s1,q2,r2,s2,rfl⟩:=hvr.lit;obtain ⟨⟨e0,e1,e2,f0,f1,f2⟩,HPP,HV,HKF⟩:=Bz T_4.out.rr T_4.out.k (Below.refl _ _) hvr (by omega);clear hvr;clear k4;obtain ⟨g0,g1,g2,_⟩:=T_4.out.ra.cells;obtain ⟨h0,h1,h2,_⟩:=T_4.out.rb.cells))
 obtain ⟨k0,k1,k2⟩:=HPP.out
 go_wp2
 exact bodyPost_ret (v:= .agg #[.bool sgn,.slice q1 r1 s1,.slice q2 r2 s2]) (by simp [results,Tryz.results129,go_sem,k0,k1,k2]) rfl ⟨_,rfl,HV.out,HKF.out⟩
end Go.Proofs.YtfineedhebhpaaaGreatDoor
