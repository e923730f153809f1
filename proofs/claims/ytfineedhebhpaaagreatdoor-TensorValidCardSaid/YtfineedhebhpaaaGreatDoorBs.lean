/-
  Several texts in one: Rqm, Rq2.
-/
import Derived.Test.YtfineedhebhpaaaGreatDoorBy
import Derived.Test.YtfineedhebhpaaaGreatDoorBr
namespace Go.Proofs.YtfineedhebhpaaaGreatDoor
open Lib renaming hid→Yt
set_option maxHeartbeats 16000000
open Go.RowKit
set_option maxRecDepth 20000 in
theorem RH {w:World} {u v:Value} {x y:Rat} (hu:Ax w u x) (hv:Ax w v y) {j k:Nat} (hs:RSz j x) (ht:RSz k y) (hj:j≤500000000) (hk:k≤500000000):
  Calls Tryz.prog 54 #[u,v] w fun e w'=> ∃r,e= .returned r∧Ax w' r (x*y)∧Kp w w':=by
 have hres:AE (decide (x.num<0) !=decide (y.num<0)) (x.num.natAbs*y.num.natAbs) (x.den*y.den)=x*y:=by rw [←Fl,Bx,Bx]
 rw [←hres]
 obtain ⟨a1,l1,c1,a2,l2,c2,rfl,m1,m2⟩:=hu.parts
 obtain ⟨a3,l3,c3,a4,l4,c4,rfl,m3,m4⟩:=hv.parts
 have HP:=Yt (Two.new w (.bool (decide (x.num<0))) (.slice a1 l1 c1) (.slice a2 l2 c2) (.bool (decide (y.num<0))) (.slice a3 l3 c3) (.slice a4 l4 c4))
 have HMN:=Yt (fun w' (kk:Kp w w')=>Co (m1.kp kk) (m3.kp kk) hs.1 ht.1 (by omega) (by omega))
 have HDA:=Yt (fun w' (kk:Kp w w')=>EW (s:=decide (x.num<0)) (m1.kp kk) (m2.kp kk))
 have HDB:=Yt (fun w' (kk:Kp w w')=>EW (s:=decide (y.num<0)) (m3.kp kk) (m4.kp kk))
 have HMD:=Yt (fun w' va vb (ma:M w' va x.den) (mb:M w' vb y.den)=>Co ma mb hs.2 ht.2 (by omega) (by omega))
 have hd0:x.den*y.den≠0:=Nat.mul_ne_zero x.den_nz y.den_nz
 have HR:=Yt (fun w' s va vb (ma:M w' va (x.num.natAbs*y.num.natAbs)) (mb:M w' vb (x.den*y.den))=>Fj (neg:=s) ma mb (hs.1.mul ht.1) (hs.2.mul ht.2) (by omega) (by omega) hd0)
 obtain ⟨p,hp⟩: ∃p,p=decide (x.num<0):=⟨_,rfl⟩
 obtain ⟨q,hq⟩: ∃q,q=decide (y.num<0):=⟨_,rfl⟩
 rw [←hp] at HP HDA⊢
 rw [←hq] at HP HDB⊢
 clear hu hv hp hq hs ht m1 m2 m3 m4 hd0 hres
 go_enter Tryz.func54,Tryz.ntmps54
 have n1: ¬(w.heap.size+1+1=w.heap.size):=by omega
 have n2: ¬(w.heap.size=w.heap.size+1+1):=by omega
 go_wp2_with fail
 obtain ⟨g0,g1,g2,_⟩:=HP.out.ra.cells
 obtain ⟨h0,h1,h2,_⟩:=HP.out.rb.cells
 go_region_held3 (fun w'=>w'.cell? ⟨w.heap.size,0,none⟩=some (.bool p)∧w'.cell? ⟨w.heap.size,1,none⟩=some (.slice a1 l1 c1)∧w'.cell? ⟨w.heap.size,2,none⟩=some (.slice a2 l2 c2)∧w'.cell? ⟨w.heap.size+1,0,none⟩=some (.bool q)∧w'.cell? ⟨w.heap.size+1,1,none⟩=some (.slice a3 l3 c3)∧w'.cell? ⟨w.heap.size+1,2,none⟩=some (.slice a4 l4 c4))
  (first|(refine ⟨?_,?_,?_,?_,?_,?_⟩<;>assumption)|go_keep)
  (first
   | (go_at_call 127;(with_reducible refine (HMN.out _ (by repeat first|exact HP.out.k|apply Kp.on|apply Kp.up)).mono ?_);rintro e w1 ⟨vn,rfl,hvn,K1⟩;have MN:=Yt hvn;have T1:=Yt ((HP.out.kp (Below.refl _ _).drew).kp K1);obtain ⟨g0,g1,g2,_⟩:=T1.out.ra.cells;obtain ⟨h0,h1,h2,_⟩:=T1.out.rb.cells;clear hvn K1)
   | (go_at_call 128;(with_reducible refine (HDA.out _ (by repeat first|exact T1.out.k|apply Kp.on|apply Kp.up)).mono ?_);rintro e w2 ⟨va,rfl,hva,K2⟩;have MA:=Yt hva;have T2:=Yt (T1.out.kp K2);have MN2:=Yt (MN.out.kp K2);obtain ⟨g0,g1,g2,_⟩:=T2.out.ra.cells;obtain ⟨h0,h1,h2,_⟩:=T2.out.rb.cells;clear hva K2)
   | (go_at_call 128;(with_reducible refine (HDB.out _ (by repeat first|exact T2.out.k|apply Kp.on|apply Kp.up)).mono ?_);rintro e w3 ⟨vb,rfl,hvb,K3⟩;have MB:=Yt hvb;have T3:=Yt (T2.out.kp K3);have MA3:=Yt (MA.out.kp K3);have MN3:=Yt (MN2.out.kp K3);obtain ⟨g0,g1,g2,_⟩:=T3.out.ra.cells;obtain ⟨h0,h1,h2,_⟩:=T3.out.rb.cells;clear hvb K3)
   | (go_at_call 127;(with_reducible refine (HMD.out _ _ _ MA3.out MB.out).mono ?_);rintro e w4 ⟨vd,rfl,hvd,K4⟩;have MD:=Yt hvd;have T4:=Yt (T3.out.kp K4);have MN4:=Yt (MN3.out.kp K4);obtain ⟨g0,g1,g2,_⟩:=T4.out.ra.cells;obtain ⟨h0,h1,h2,_⟩:=T4.out.rb.cells;clear hvd K4)
   | (go_at_call 126;(with_reducible refine (HR.out _ _ _ _ MN4.out MD.out).mono ?_);rintro e wz ⟨vr,rfl,hvr,kz⟩;obtain ⟨sgn,q1,r1,s1,q2,r2,s2,rfl⟩:=hvr.lit;obtain ⟨⟨e0,e1,e2,f0,f1,f2⟩,HPP,HV,HKF⟩:=Bz T4.out.rr T4.out.k kz hvr (by omega);have T5:=Yt (T4.out.kp kz);obtain ⟨g0,g1,g2,_⟩:=T5.out.ra.cells;obtain ⟨h0,h1,h2,_⟩:=T5.out.rb.cells;clear hvr kz))
 obtain ⟨k0,k1,k2⟩:=HPP.out
 go_wp2
 exact bodyPost_ret (v:= .agg #[.bool sgn,.slice q1 r1 s1,.slice q2 r2 s2]) (by simp [results,Tryz.results54,go_sem,k0,k1,k2]) rfl ⟨_,rfl,HV.out,HKF.out⟩
theorem OS {w:World} {u:Value} {x:Rat} (hu:Ax w u x) {v:Value} {y:Rat} (hv:Ax w v y) {j k:Nat} (hs:RSz j x) (ht:RSz k y) (hj:j≤500000000) (hk:k≤500000000) (h0:y≠0):
  Calls Tryz.prog 181 #[u,v] w fun e w'=> ∃r,e= .returned (.tuple #[r,.int .i64 0])∧Ax w' r (x/y)∧Kp w w':=by
 have hy0:y.num.natAbs≠0:=fun e=>h0 (Rat.num_eq_zero.1 (Int.natAbs_eq_zero.1 e))
 have hres:AE (decide (x.num<0) !=decide (y.num<0)) (x.num.natAbs*y.den) (x.den*y.num.natAbs)=x/y:=by
  rw [←Fl,Bx,←KK _ hy0 y.den_nz,Bx,Rat.div_def]
 rw [←hres]
 clear hres
 have hd0:x.den*y.num.natAbs≠0:=Nat.mul_ne_zero x.den_nz hy0
 obtain ⟨a1,l1,c1,a2,l2,c2,rfl,m1,m2⟩:=hu.parts
 obtain ⟨a3,l3,c3,a4,l4,c4,rfl,m3,m4⟩:=hv.parts
 have HT:=Yt (Two.new w (.bool (decide (x.num<0))) (.slice a1 l1 c1) (.slice a2 l2 c2) (.bool (decide (y.num<0))) (.slice a3 l3 c3) (.slice a4 l4 c4))
 have HU:=Yt hu
 have Hm1:=Yt m1
 have Hm2:=Yt m2
 have HV:=Yt hv
 have Hm3:=Yt m3
 have Hm4:=Yt m4
 have CDA:=Yt (fun w' (a:M w' (.slice a1 l1 c1) x.num.natAbs) (b:M w' (.slice a2 l2 c2) (AX x))=>EW (s:=decide (x.num<0)) a b)
 have CDB:=Yt (fun w' (a:M w' (.slice a3 l3 c3) y.num.natAbs) (b:M w' (.slice a4 l4 c4) (AX y))=>EW (s:=decide (y.num<0)) a b)
 have CM1:=Yt (fun w' va vb (a:M w' va (x.num.natAbs)) (b:M w' vb (y.den))=>Co a b hs.1 ht.2 (by omega) (by omega))
 have CM2:=Yt (fun w' va vb (a:M w' va (x.den)) (b:M w' vb (y.num.natAbs))=>Co a b hs.2 ht.1 (by omega) (by omega))
 have CR:=Yt (fun w' s va vb (a:M w' va (x.num.natAbs*y.den)) (b:M w' vb (x.den*y.num.natAbs))=>Fj (neg:=s) a b (hs.1.mul ht.2) (hs.2.mul ht.1) (by omega) (by omega) hd0)
 obtain ⟨p,hp⟩: ∃b,b=decide (x.num<0):=⟨_,rfl⟩
 try rw [←hp] at HT
 try rw [←hp] at HU
 try rw [←hp] at Hm1
 try rw [←hp] at Hm2
 try rw [←hp] at HV
 try rw [←hp] at Hm3
 try rw [←hp] at Hm4
 try rw [←hp] at CDA
 try rw [←hp] at CDB
 try rw [←hp] at CM1
 try rw [←hp] at CM2
 try rw [←hp] at CR
 try rw [←hp]
 have HPp:=Yt hp
 obtain ⟨q,hq⟩: ∃b,b=decide (y.num<0):=⟨_,rfl⟩
 try rw [←hq] at HT
 try rw [←hq] at HU
 try rw [←hq] at Hm1
 try rw [←hq] at Hm2
 try rw [←hq] at HV
 try rw [←hq] at Hm3
 try rw [←hq] at Hm4
 try rw [←hq] at CDA
 try rw [←hq] at CDB
 try rw [←hq] at CM1
 try rw [←hq] at CM2
 try rw [←hq] at CR
 try rw [←hq]
 have HPq:=Yt hq
 clear hu m1 m2 hp hv m3 m4 hq
 have hl3:0<l3:=by have:=Ch Hm3.out;omega
 have hl3z:((l3:Int)==0)=false:=beq_eq_false_iff_ne.2 (by omega)
 clear hd0 hy0 h0
 go_enter Tryz.func181,Tryz.ntmps181
 have KN:=HT.out.k
 have U_e:=Yt (HU.out.kp KN)
 have m1_e:=Yt (Hm1.out.kp KN)
 have m2_e:=Yt (Hm2.out.kp KN)
 have V_e:=Yt (HV.out.kp KN)
 have m3_e:=Yt (Hm3.out.kp KN)
 have m4_e:=Yt (Hm4.out.kp KN)
 clear KN
 obtain ⟨g0,g1,g2,_⟩:=HT.out.ra.cells
 obtain ⟨h0,h1,h2,_⟩:=HT.out.rb.cells
 have n1: ¬(w.heap.size+1+1=w.heap.size):=by omega
 have n2: ¬(w.heap.size=w.heap.size+1+1):=by omega
 go_wp2_with fail
 have T_2:=Yt (HT.out.kp (Below.refl _ _).drew)
 have U_2:=Yt (U_e.out.kp (Below.refl _ _).drew)
 have m1_2:=Yt (m1_e.out.kp (Below.refl _ _).drew)
 have m2_2:=Yt (m2_e.out.kp (Below.refl _ _).drew)
 have V_2:=Yt (V_e.out.kp (Below.refl _ _).drew)
 have m3_2:=Yt (m3_e.out.kp (Below.refl _ _).drew)
 have m4_2:=Yt (m4_e.out.kp (Below.refl _ _).drew)
 clear HT U_e m1_e m2_e V_e m3_e m4_e
 go_region_held3 (fun w'=>w'.cell? ⟨w.heap.size,0,none⟩=some (.bool p)∧w'.cell? ⟨w.heap.size,1,none⟩=some (.slice a1 l1 c1)∧w'.cell? ⟨w.heap.size,2,none⟩=some (.slice a2 l2 c2)∧w'.cell? ⟨w.heap.size+1,0,none⟩=some (.bool q)∧w'.cell? ⟨w.heap.size+1,1,none⟩=some (.slice a3 l3 c3)∧w'.cell? ⟨w.heap.size+1,2,none⟩=some (.slice a4 l4 c4))
  (first|(refine ⟨?_,?_,?_,?_,?_,?_⟩<;>assumption)|go_keep)
  (first
   | (go_at_call 128;(with_reducible refine (CDB.out _ m3_2.out m4_2.out).mono ?_);rintro e w3 ⟨vB,rfl,hB,k3⟩;have T_3:=Yt (T_2.out.kp k3);have U_3:=Yt (U_2.out.kp k3);have m1_3:=Yt (m1_2.out.kp k3);have m2_3:=Yt (m2_2.out.kp k3);have V_3:=Yt (V_2.out.kp k3);have m3_3:=Yt (m3_2.out.kp k3);have m4_3:=Yt (m4_2.out.kp k3);clear T_2 U_2 m1_2 m2_2 V_2 m3_2 m4_2;have B_3:=Yt hB;clear hB k3;obtain ⟨g0,g1,g2,_⟩:=T_3.out.ra.cells;obtain ⟨h0,h1,h2,_⟩:=T_3.out.rb.cells)
   | (go_at_call 127;(with_reducible refine (CM1.out _ _ _ m1_3.out B_3.out).mono ?_);rintro e w4 ⟨vC,rfl,hC,k4⟩;have T_4:=Yt (T_3.out.kp k4);have U_4:=Yt (U_3.out.kp k4);have m1_4:=Yt (m1_3.out.kp k4);have m2_4:=Yt (m2_3.out.kp k4);have V_4:=Yt (V_3.out.kp k4);have m3_4:=Yt (m3_3.out.kp k4);have m4_4:=Yt (m4_3.out.kp k4);have B_4:=Yt (B_3.out.kp k4);clear T_3 U_3 m1_3 m2_3 V_3 m3_3 m4_3 B_3;have C_4:=Yt hC;clear hC k4;obtain ⟨g0,g1,g2,_⟩:=T_4.out.ra.cells;obtain ⟨h0,h1,h2,_⟩:=T_4.out.rb.cells)
   | (go_at_call 128;(with_reducible refine (CDA.out _ m1_4.out m2_4.out).mono ?_);rintro e w5 ⟨vA,rfl,hA,k5⟩;have T_5:=Yt (T_4.out.kp k5);have U_5:=Yt (U_4.out.kp k5);have m1_5:=Yt (m1_4.out.kp k5);have m2_5:=Yt (m2_4.out.kp k5);have V_5:=Yt (V_4.out.kp k5);have m3_5:=Yt (m3_4.out.kp k5);have m4_5:=Yt (m4_4.out.kp k5);have B_5:=Yt (B_4.out.kp k5);have C_5:=Yt (C_4.out.kp k5);clear T_4 U_4 m1_4 m2_4 V_4 m3_4 m4_4 B_4 C_4;have A_5:=Yt hA;clear hA k5;obtain ⟨g0,g1,g2,_⟩:=T_5.out.ra.cells;obtain ⟨h0,h1,h2,_⟩:=T_5.out.rb.cells)
   | (go_at_call 127;(with_reducible refine (CM2.out _ _ _ A_5.out m3_5.out).mono ?_);rintro e w6 ⟨vD,rfl,hD,k6⟩;have T_6:=Yt (T_5.out.kp k6);have U_6:=Yt (U_5.out.kp k6);have m1_6:=Yt (m1_5.out.kp k6);have m2_6:=Yt (m2_5.out.kp k6);have V_6:=Yt (V_5.out.kp k6);have m3_6:=Yt (m3_5.out.kp k6);have m4_6:=Yt (m4_5.out.kp k6);have B_6:=Yt (B_5.out.kp k6);have C_6:=Yt (C_5.out.kp k6);have A_6:=Yt (A_5.out.kp k6);clear T_5 U_5 m1_5 m2_5 V_5 m3_5 m4_5 B_5 C_5 A_5;have D_6:=Yt hD;clear hD k6;obtain ⟨g0,g1,g2,_⟩:=T_6.out.ra.cells;obtain ⟨h0,h1,h2,_⟩:=T_6.out.rb.cells)
   | (go_at_call 126;(with_reducible refine (CR.out _ _ _ _ C_6.out D_6.out).mono ?_);rintro e w7 ⟨vr,rfl,hvr,k7⟩;have T_7:=Yt (T_6.out.kp k7);have U_7:=Yt (U_6.out.kp k7);have m1_7:=Yt (m1_6.out.kp k7);have m2_7:=Yt (m2_6.out.kp k7);have V_7:=Yt (V_6.out.kp k7);have m3_7:=Yt (m3_6.out.kp k7);have m4_7:=Yt (m4_6.out.kp k7);have B_7:=Yt (B_6.out.kp k7);have C_7:=Yt (C_6.out.kp k7);have A_7:=Yt (A_6.out.kp k7);have D_7:=Yt (D_6.out.kp k7);clear T_6 U_6 m1_6 m2_6 V_6 m3_6 m4_6 B_6 C_6 A_6 D_6;obtain ⟨sgn,q1,r1,s1,q2,r2,s2,rfl⟩:=hvr.lit;obtain ⟨⟨e0,e1,e2,f0,f1,f2⟩,HPP,HV,HKF⟩:=Bz T_7.out.rr T_7.out.k (Below.refl _ _) hvr (by omega);clear hvr;clear k7;obtain ⟨g0,g1,g2,_⟩:=T_7.out.ra.cells;obtain ⟨h0,h1,h2,_⟩:=T_7.out.rb.cells))
 obtain ⟨k0,k1,k2⟩:=HPP.out
 go_wp2
 exact bodyPost_ret (v:= .tuple #[.agg #[.bool sgn,.slice q1 r1 s1,.slice q2 r2 s2],.int .i64 0]) (by simp [results,Tryz.results181,go_sem,k0,k1,k2]) rfl ⟨_,rfl,HV.out,HKF.out⟩
set_option maxRecDepth 20000 in
theorem OT {w:World} {u:Value} {x:Rat} (hu:Ax w u x) {v:Value} {y:Rat} (hv:Ax w v y) {j k:Nat} (hs:RSz j x) (ht:RSz k y) (hj:j≤500000000) (hk:k≤500000000) (h0:y≠0):
  Calls Tryz.prog 111 #[u,v] w fun e w'=> ∃r,e= .returned r∧Ax w' r (x/y)∧Kp w w':=by
 obtain ⟨a1,l1,c1,a2,l2,c2,rfl,m1,m2⟩:=hu.parts
 obtain ⟨a3,l3,c3,a4,l4,c4,rfl,m3,m4⟩:=hv.parts
 have HT:=Yt (Two.new w (.bool (decide (x.num<0))) (.slice a1 l1 c1) (.slice a2 l2 c2) (.bool (decide (y.num<0))) (.slice a3 l3 c3) (.slice a4 l4 c4))
 have HU:=Yt hu
 have HV:=Yt hv
 have CQ:=Yt (fun w' a b (ha:Ax w' a x) (hb:Ax w' b y)=>OS ha hb hs ht hj hk h0)
 obtain ⟨p,hp⟩: ∃b,b=decide (x.num<0):=⟨_,rfl⟩
 try rw [←hp] at HT
 try rw [←hp] at HU
 try rw [←hp] at HV
 try rw [←hp] at CQ
 try rw [←hp]
 have HPp:=Yt hp
 obtain ⟨q,hq⟩: ∃b,b=decide (y.num<0):=⟨_,rfl⟩
 try rw [←hq] at HT
 try rw [←hq] at HU
 try rw [←hq] at HV
 try rw [←hq] at CQ
 try rw [←hq]
 have HPq:=Yt hq
 clear hu m1 m2 hp hv m3 m4 hq
 clear h0
 go_enter Tryz.func111,Tryz.ntmps111
 have KN:=HT.out.k
 have U_e:=Yt (HU.out.kp KN)
 have V_e:=Yt (HV.out.kp KN)
 clear KN
 obtain ⟨g0,g1,g2,_⟩:=HT.out.ra.cells
 obtain ⟨h0,h1,h2,_⟩:=HT.out.rb.cells
 go_wp2_with (go_at_call 181;(with_reducible refine (CQ.out _ _ _ U_e.out V_e.out).mono ?_);rintro e w2 ⟨vr,rfl,hvr,k2⟩;refine Hid.out ?_)
 refine Yt ?_
 have T_2:=Yt (HT.out.kp k2)
 have U_2:=Yt (U_e.out.kp k2)
 have V_2:=Yt (V_e.out.kp k2)
 clear HT U_e V_e
 clear k2
 obtain ⟨sgn,q1,r1,s1,q2,r2,s2,rfl⟩:=hvr.lit
 have VR:=Yt hvr
 clear hvr
 have T_3:=Yt (T_2.out.kp (Kp.alloc _ (Obj.cells #[Value.bool sgn,Value.slice q1 r1 s1,Value.slice q2 r2 s2] 34)))
 have U_3:=Yt (U_2.out.kp (Kp.alloc _ (Obj.cells #[Value.bool sgn,Value.slice q1 r1 s1,Value.slice q2 r2 s2] 34)))
 have V_3:=Yt (V_2.out.kp (Kp.alloc _ (Obj.cells #[Value.bool sgn,Value.slice q1 r1 s1,Value.slice q2 r2 s2] 34)))
 have V9_3:=Yt (VR.out.kp (Kp.alloc _ (Obj.cells #[Value.bool sgn,Value.slice q1 r1 s1,Value.slice q2 r2 s2] 34)))
 clear T_2 U_2 V_2 VR
 obtain ⟨⟨e0,e1,e2,f0,f1,f2⟩,HPP,HV,HKF⟩:=Bz T_3.out.rr T_3.out.k (Below.refl _ _) V9_3.out (by omega)
 obtain ⟨k0,k1,k2⟩:=HPP.out
 go_wp2
 exact bodyPost_ret (v:= .agg #[.bool sgn,.slice q1 r1 s1,.slice q2 r2 s2]) (by simp [results,Tryz.results111,go_sem,k0,k1,k2]) rfl ⟨_,rfl,HV.out,HKF.out⟩
end Go.Proofs.YtfineedhebhpaaaGreatDoor
