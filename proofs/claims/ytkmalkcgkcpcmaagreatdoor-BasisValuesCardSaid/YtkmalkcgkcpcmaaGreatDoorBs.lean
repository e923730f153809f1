/-
  Several texts in one: Rqm, Rq2.
-/
import Derived.Test.YtkmalkcgkcpcmaaGreatDoorBy
import Derived.Test.YtkmalkcgkcpcmaaGreatDoorBr
namespace Go.Proofs.YtkmalkcgkcpcmaaGreatDoor
open Lib renaming hid→Yg
set_option maxHeartbeats 16000000
open Go.RowKit
set_option maxRecDepth 20000 in
theorem Rj {w:World} {u v:Value} {x y:Rat} (hu:AA w u x) (hv:AA w v y) {j k:Nat} (hs:RSz j x) (ht:RSz k y) (hj:j≤500000000) (hk:k≤500000000):
  Calls Tryz.prog 77 #[u,v] w fun e w'=> ∃r,e= .returned r∧AA w' r (x*y)∧Kp w w':=by
 have hres:AX (decide (x.num<0) !=decide (y.num<0)) (x.num.natAbs*y.num.natAbs) (x.den*y.den)=x*y:=by rw [←E5,BJ,BJ]
 rw [←hres]
 obtain ⟨a1,l1,c1,a2,l2,c2,rfl,m1,m2⟩:=hu.parts
 obtain ⟨a3,l3,c3,a4,l4,c4,rfl,m3,m4⟩:=hv.parts
 have HP:=Yg (Two.new w (.bool (decide (x.num<0))) (.slice a1 l1 c1) (.slice a2 l2 c2) (.bool (decide (y.num<0))) (.slice a3 l3 c3) (.slice a4 l4 c4))
 have HMN:=Yg (fun w' (kk:Kp w w')=>Ci (m1.kp kk) (m3.kp kk) hs.1 ht.1 (by omega) (by omega))
 have HDA:=Yg (fun w' (kk:Kp w w')=>DZ (s:=decide (x.num<0)) (m1.kp kk) (m2.kp kk))
 have HDB:=Yg (fun w' (kk:Kp w w')=>DZ (s:=decide (y.num<0)) (m3.kp kk) (m4.kp kk))
 have HMD:=Yg (fun w' va vb (ma:M w' va x.den) (mb:M w' vb y.den)=>Ci ma mb hs.2 ht.2 (by omega) (by omega))
 have hd0:x.den*y.den≠0:=Nat.mul_ne_zero x.den_nz y.den_nz
 have HR:=Yg (fun w' s va vb (ma:M w' va (x.num.natAbs*y.num.natAbs)) (mb:M w' vb (x.den*y.den))=>E4 (neg:=s) ma mb (hs.1.mul ht.1) (hs.2.mul ht.2) (by omega) (by omega) hd0)
 obtain ⟨p,hp⟩: ∃p,p=decide (x.num<0):=⟨_,rfl⟩
 obtain ⟨q,hq⟩: ∃q,q=decide (y.num<0):=⟨_,rfl⟩
 rw [←hp] at HP HDA⊢
 rw [←hq] at HP HDB⊢
 clear hu hv hp hq hs ht m1 m2 m3 m4 hd0 hres
 go_enter Tryz.func77,Tryz.ntmps77
 have n1: ¬(w.heap.size+1+1=w.heap.size):=by omega
 have n2: ¬(w.heap.size=w.heap.size+1+1):=by omega
 go_wp2_with fail
 obtain ⟨g0,g1,g2,_⟩:=HP.out.ra.cells
 obtain ⟨h0,h1,h2,_⟩:=HP.out.rb.cells
 go_region_held3 (fun w'=>w'.cell? ⟨w.heap.size,0,none⟩=some (.bool p)∧w'.cell? ⟨w.heap.size,1,none⟩=some (.slice a1 l1 c1)∧w'.cell? ⟨w.heap.size,2,none⟩=some (.slice a2 l2 c2)∧w'.cell? ⟨w.heap.size+1,0,none⟩=some (.bool q)∧w'.cell? ⟨w.heap.size+1,1,none⟩=some (.slice a3 l3 c3)∧w'.cell? ⟨w.heap.size+1,2,none⟩=some (.slice a4 l4 c4))
  (first|(refine ⟨?_,?_,?_,?_,?_,?_⟩<;>assumption)|go_keep)
  (first
   | (go_at_call 81;(with_reducible refine (HMN.out _ (by repeat first|exact HP.out.k|apply Kp.on|apply Kp.up)).mono ?_);rintro e w1 ⟨vn,rfl,hvn,K1⟩;have MN:=Yg hvn;have T1:=Yg ((HP.out.kp (Below.refl _ _).drew).kp K1);obtain ⟨g0,g1,g2,_⟩:=T1.out.ra.cells;obtain ⟨h0,h1,h2,_⟩:=T1.out.rb.cells;clear hvn K1)
   | (go_at_call 82;(with_reducible refine (HDA.out _ (by repeat first|exact T1.out.k|apply Kp.on|apply Kp.up)).mono ?_);rintro e w2 ⟨va,rfl,hva,K2⟩;have MA:=Yg hva;have T2:=Yg (T1.out.kp K2);have MN2:=Yg (MN.out.kp K2);obtain ⟨g0,g1,g2,_⟩:=T2.out.ra.cells;obtain ⟨h0,h1,h2,_⟩:=T2.out.rb.cells;clear hva K2)
   | (go_at_call 82;(with_reducible refine (HDB.out _ (by repeat first|exact T2.out.k|apply Kp.on|apply Kp.up)).mono ?_);rintro e w3 ⟨vb,rfl,hvb,K3⟩;have MB:=Yg hvb;have T3:=Yg (T2.out.kp K3);have MA3:=Yg (MA.out.kp K3);have MN3:=Yg (MN2.out.kp K3);obtain ⟨g0,g1,g2,_⟩:=T3.out.ra.cells;obtain ⟨h0,h1,h2,_⟩:=T3.out.rb.cells;clear hvb K3)
   | (go_at_call 81;(with_reducible refine (HMD.out _ _ _ MA3.out MB.out).mono ?_);rintro e w4 ⟨vd,rfl,hvd,K4⟩;have MD:=Yg hvd;have T4:=Yg (T3.out.kp K4);have MN4:=Yg (MN3.out.kp K4);obtain ⟨g0,g1,g2,_⟩:=T4.out.ra.cells;obtain ⟨h0,h1,h2,_⟩:=T4.out.rb.cells;clear hvd K4)
   | (go_at_call 92;(with_reducible refine (HR.out _ _ _ _ MN4.out MD.out).mono ?_);rintro e wz ⟨vr,rfl,hvr,kz⟩;obtain ⟨sgn,q1,r1,s1,q2,r2,s2,rfl⟩:=hvr.lit;obtain ⟨⟨e0,e1,e2,f0,f1,f2⟩,HPP,HV,HKF⟩:=BU T4.out.rr T4.out.k kz hvr (by omega);have T5:=Yg (T4.out.kp kz);obtain ⟨g0,g1,g2,_⟩:=T5.out.ra.cells;obtain ⟨h0,h1,h2,_⟩:=T5.out.rb.cells;clear hvr kz))
 obtain ⟨k0,k1,k2⟩:=HPP.out
 go_wp2
 exact bodyPost_ret (v:= .agg #[.bool sgn,.slice q1 r1 s1,.slice q2 r2 s2]) (by simp [results,Tryz.results77,go_sem,k0,k1,k2]) rfl ⟨_,rfl,HV.out,HKF.out⟩
theorem OF {w:World} {u:Value} {x:Rat} (hu:AA w u x) {v:Value} {y:Rat} (hv:AA w v y) (h0:y=0):
  Calls Tryz.prog 147 #[u,v] w fun e w'=>e= .returned (.tuple #[.agg #[.bool false,.slice none 0 0,.slice none 0 0],.int .i64 3])∧Kp w w':=by
 obtain ⟨a1,l1,c1,a2,l2,c2,rfl,m1,m2⟩:=hu.parts
 obtain ⟨a3,l3,c3,a4,l4,c4,rfl,m3,m4⟩:=hv.parts
 have HT:=Yg (Two.new w (.bool (decide (x.num<0))) (.slice a1 l1 c1) (.slice a2 l2 c2) (.bool (decide (y.num<0))) (.slice a3 l3 c3) (.slice a4 l4 c4))
 have HU:=Yg hu
 have Hm1:=Yg m1
 have Hm2:=Yg m2
 have HV:=Yg hv
 have Hm3:=Yg m3
 have Hm4:=Yg m4
 obtain ⟨p,hp⟩: ∃b,b=decide (x.num<0):=⟨_,rfl⟩
 try rw [←hp] at HT
 try rw [←hp] at HU
 try rw [←hp] at Hm1
 try rw [←hp] at Hm2
 try rw [←hp] at HV
 try rw [←hp] at Hm3
 try rw [←hp] at Hm4
 try rw [←hp]
 have HPp:=Yg hp
 obtain ⟨q,hq⟩: ∃b,b=decide (y.num<0):=⟨_,rfl⟩
 try rw [←hq] at HT
 try rw [←hq] at HU
 try rw [←hq] at Hm1
 try rw [←hq] at Hm2
 try rw [←hq] at HV
 try rw [←hq] at Hm3
 try rw [←hq] at Hm4
 try rw [←hq]
 have HPq:=Yg hq
 clear hu m1 m2 hp hv m3 m4 hq
 subst h0
 obtain rfl:=(Cf Hm3.out).2 rfl
 go_enter Tryz.func147,Tryz.ntmps147
 have KN:=HT.out.k
 have U_e:=Yg (HU.out.kp KN)
 have m1_e:=Yg (Hm1.out.kp KN)
 have m2_e:=Yg (Hm2.out.kp KN)
 have V_e:=Yg (HV.out.kp KN)
 have m3_e:=Yg (Hm3.out.kp KN)
 have m4_e:=Yg (Hm4.out.kp KN)
 clear KN
 obtain ⟨g0,g1,g2,_⟩:=HT.out.ra.cells
 obtain ⟨h0,h1,h2,_⟩:=HT.out.rb.cells
 obtain ⟨d0,d1,d2,f0,f1,f2⟩:=HT.out.rr.cells
 have HPP:=Yg (HT.out.rr.put (.bool false) (.slice none 0 0) (.slice none 0 0)).cells
 unfold DY at HPP
 go_wp2
 have HF:=HPP.out
 clear HPP
 exact bodyPost_ret (v:= .tuple #[.agg #[.bool false,.slice none 0 0,.slice none 0 0],.int .i64 3]) (by simp [results,Tryz.results147,go_sem]) rfl ⟨rfl,by repeat first|exact Below.refl _ _|apply Kp.up⟩
set_option maxRecDepth 20000 in
theorem Je {w:World} {u:Value} {x:Rat} (hu:AA w u x) {v:Value} {y:Rat} (hv:AA w v y) {j k:Nat} (hs:RSz j x) (ht:RSz k y) (hj:j≤500000000) (hk:k≤500000000) (h0:y≠0):
  Calls Tryz.prog 147 #[u,v] w fun e w'=> ∃r,e= .returned (.tuple #[r,.int .i64 0])∧AA w' r (x/y)∧Kp w w':=by
 have hy0:y.num.natAbs≠0:=fun e=>h0 (Rat.num_eq_zero.1 (Int.natAbs_eq_zero.1 e))
 have hres:AX (decide (x.num<0) !=decide (y.num<0)) (x.num.natAbs*y.den) (x.den*y.num.natAbs)=x/y:=by
  rw [←E5,BJ,←Kr _ hy0 y.den_nz,BJ,Rat.div_def]
 rw [←hres]
 clear hres
 have hd0:x.den*y.num.natAbs≠0:=Nat.mul_ne_zero x.den_nz hy0
 obtain ⟨a1,l1,c1,a2,l2,c2,rfl,m1,m2⟩:=hu.parts
 obtain ⟨a3,l3,c3,a4,l4,c4,rfl,m3,m4⟩:=hv.parts
 have HT:=Yg (Two.new w (.bool (decide (x.num<0))) (.slice a1 l1 c1) (.slice a2 l2 c2) (.bool (decide (y.num<0))) (.slice a3 l3 c3) (.slice a4 l4 c4))
 have HU:=Yg hu
 have Hm1:=Yg m1
 have Hm2:=Yg m2
 have HV:=Yg hv
 have Hm3:=Yg m3
 have Hm4:=Yg m4
 have CDA:=Yg (fun w' (a:M w' (.slice a1 l1 c1) x.num.natAbs) (b:M w' (.slice a2 l2 c2) (Bz x))=>DZ (s:=decide (x.num<0)) a b)
 have CDB:=Yg (fun w' (a:M w' (.slice a3 l3 c3) y.num.natAbs) (b:M w' (.slice a4 l4 c4) (Bz y))=>DZ (s:=decide (y.num<0)) a b)
 have CM1:=Yg (fun w' va vb (a:M w' va (x.num.natAbs)) (b:M w' vb (y.den))=>Ci a b hs.1 ht.2 (by omega) (by omega))
 have CM2:=Yg (fun w' va vb (a:M w' va (x.den)) (b:M w' vb (y.num.natAbs))=>Ci a b hs.2 ht.1 (by omega) (by omega))
 have CR:=Yg (fun w' s va vb (a:M w' va (x.num.natAbs*y.den)) (b:M w' vb (x.den*y.num.natAbs))=>E4 (neg:=s) a b (hs.1.mul ht.2) (hs.2.mul ht.1) (by omega) (by omega) hd0)
 obtain ⟨p,hp⟩: ∃b,b=decide (x.num<0):=⟨_,rfl⟩
 try rw [←hp] at HT
 try rw [←hp] at HU
 try rw [←hp] at Hm1
 try rw [←hp] at Hm2
 try rw [←hp] at HV
 try rw [←hp] at Hm3
 try rw [←hp] at Hm4
 try rw [←hp] at CDA
 try rw [←hp] at CDB
 try rw [←hp] at CM1
 try rw [←hp] at CM2
 try rw [←hp] at CR
 try rw [←hp]
 have HPp:=Yg hp
 obtain ⟨q,hq⟩: ∃b,b=decide (y.num<0):=⟨_,rfl⟩
 try rw [←hq] at HT
 try rw [←hq] at HU
 try rw [←hq] at Hm1
 try rw [←hq] at Hm2
 try rw [←hq] at HV
 try rw [←hq] at Hm3
 try rw [←hq] at Hm4
 try rw [←hq] at CDA
 try rw [←hq] at CDB
 try rw [←hq] at CM1
 try rw [←hq] at CM2
 try rw [←hq] at CR
 try rw [←hq]
 have HPq:=Yg hq
 clear hu m1 m2 hp hv m3 m4 hq
 have hl3:0<l3:=by have:=Cf Hm3.out;omega
 have hl3z:((l3:Int)==0)=false:=beq_eq_false_iff_ne.2 (by omega)
 clear hd0 hy0 h0
 go_enter Tryz.func147,Tryz.ntmps147
 have KN:=HT.out.k
 have U_e:=Yg (HU.out.kp KN)
 have m1_e:=Yg (Hm1.out.kp KN)
 have m2_e:=Yg (Hm2.out.kp KN)
 have V_e:=Yg (HV.out.kp KN)
 have m3_e:=Yg (Hm3.out.kp KN)
 have m4_e:=Yg (Hm4.out.kp KN)
 clear KN
 obtain ⟨g0,g1,g2,_⟩:=HT.out.ra.cells
 obtain ⟨h0,h1,h2,_⟩:=HT.out.rb.cells
 have n1: ¬(w.heap.size+1+1=w.heap.size):=by omega
 have n2: ¬(w.heap.size=w.heap.size+1+1):=by omega
 go_wp2_with fail
 have T_2:=Yg (HT.out.kp (Below.refl _ _).drew)
 have U_2:=Yg (U_e.out.kp (Below.refl _ _).drew)
 have m1_2:=Yg (m1_e.out.kp (Below.refl _ _).drew)
 have m2_2:=Yg (m2_e.out.kp (Below.refl _ _).drew)
 have V_2:=Yg (V_e.out.kp (Below.refl _ _).drew)
 have m3_2:=Yg (m3_e.out.kp (Below.refl _ _).drew)
 have m4_2:=Yg (m4_e.out.kp (Below.refl _ _).drew)
 clear HT U_e m1_e m2_e V_e m3_e m4_e
 go_region_held3 (fun w'=>w'.cell? ⟨w.heap.size,0,none⟩=some (.bool p)∧w'.cell? ⟨w.heap.size,1,none⟩=some (.slice a1 l1 c1)∧w'.cell? ⟨w.heap.size,2,none⟩=some (.slice a2 l2 c2)∧w'.cell? ⟨w.heap.size+1,0,none⟩=some (.bool q)∧w'.cell? ⟨w.heap.size+1,1,none⟩=some (.slice a3 l3 c3)∧w'.cell? ⟨w.heap.size+1,2,none⟩=some (.slice a4 l4 c4))
  (first|(refine ⟨?_,?_,?_,?_,?_,?_⟩<;>assumption)|go_keep)
  (first
   | (go_at_call 82;(with_reducible refine (CDB.out _ m3_2.out m4_2.out).mono ?_);rintro e w3 ⟨vB,rfl,hB,k3⟩;have T_3:=Yg (T_2.out.kp k3);have U_3:=Yg (U_2.out.kp k3);have m1_3:=Yg (m1_2.out.kp k3);have m2_3:=Yg (m2_2.out.kp k3);have V_3:=Yg (V_2.out.kp k3);have m3_3:=Yg (m3_2.out.kp k3);have m4_3:=Yg (m4_2.out.kp k3);clear T_2 U_2 m1_2 m2_2 V_2 m3_2 m4_2;have B_3:=Yg hB;clear hB k3;obtain ⟨g0,g1,g2,_⟩:=T_3.out.ra.cells;obtain ⟨h0,h1,h2,_⟩:=T_3.out.rb.cells)
   | (go_at_call 81;(with_reducible refine (CM1.out _ _ _ m1_3.out B_3.out).mono ?_);rintro e w4 ⟨vC,rfl,hC,k4⟩;have T_4:=Yg (T_3.out.kp k4);have U_4:=Yg (U_3.out.kp k4);have m1_4:=Yg (m1_3.out.kp k4);have m2_4:=Yg (m2_3.out.kp k4);have V_4:=Yg (V_3.out.kp k4);have m3_4:=Yg (m3_3.out.kp k4);have m4_4:=Yg (m4_3.out.kp k4);have B_4:=Yg (B_3.out.kp k4);clear T_3 U_3 m1_3 m2_3 V_3 m3_3 m4_3 B_3;have C_4:=Yg hC;clear hC k4;obtain ⟨g0,g1,g2,_⟩:=T_4.out.ra.cells;obtain ⟨h0,h1,h2,_⟩:=T_4.out.rb.cells)
   | (go_at_call 82;(with_reducible refine (CDA.out _ m1_4.out m2_4.out).mono ?_);rintro e w5 ⟨vA,rfl,hA,k5⟩;have T_5:=Yg (T_4.out.kp k5);have U_5:=Yg (U_4.out.kp k5);have m1_5:=Yg (m1_4.out.kp k5);have m2_5:=Yg (m2_4.out.kp k5);have V_5:=Yg (V_4.out.kp k5);have m3_5:=Yg (m3_4.out.kp k5);have m4_5:=Yg (m4_4.out.kp k5);have B_5:=Yg (B_4.out.kp k5);have C_5:=Yg (C_4.out.kp k5);clear T_4 U_4 m1_4 m2_4 V_4 m3_4 m4_4 B_4 C_4;have A_5:=Yg hA;clear hA k5;obtain ⟨g0,g1,g2,_⟩:=T_5.out.ra.cells;obtain ⟨h0,h1,h2,_⟩:=T_5.out.rb.cells)
   | (go_at_call 81;(with_reducible refine (CM2.out _ _ _ A_5.out m3_5.out).mono ?_);rintro e w6 ⟨vD,rfl,hD,k6⟩;have T_6:=Yg (T_5.out.kp k6);have U_6:=Yg (U_5.out.kp k6);have m1_6:=Yg (m1_5.out.kp k6);have m2_6:=Yg (m2_5.out.kp k6);have V_6:=Yg (V_5.out.kp k6);have m3_6:=Yg (m3_5.out.kp k6);have m4_6:=Yg (m4_5.out.kp k6);have B_6:=Yg (B_5.out.kp k6);have C_6:=Yg (C_5.out.kp k6);have A_6:=Yg (A_5.out.kp k6);clear T_5 U_5 m1_5 m2_5 V_5 m3_5 m4_5 B_5 C_5 A_5;have D_6:=Yg hD;clear hD k6;obtain ⟨g0,g1,g2,_⟩:=T_6.out.ra.cells;obtain ⟨h0,h1,h2,_⟩:=T_6.out.rb.cells)
   | (go_at_call 92;(with_reducible refine (CR.out _ _ _ _ C_6.out D_6.out).mono ?_);rintro e w7 ⟨vr,rfl,hvr,k7⟩;have T_7:=Yg (T_6.out.kp k7);have U_7:=Yg (U_6.out.kp k7);have m1_7:=Yg (m1_6.out.kp k7);have m2_7:=Yg (m2_6.out.kp k7);have V_7:=Yg (V_6.out.kp k7);have m3_7:=Yg (m3_6.out.kp k7);have m4_7:=Yg (m4_6.out.kp k7);have B_7:=Yg (B_6.out.kp k7);have C_7:=Yg (C_6.out.kp k7);have A_7:=Yg (A_6.out.kp k7);have D_7:=Yg (D_6.out.kp k7);clear T_6 U_6 m1_6 m2_6 V_6 m3_6 m4_6 B_6 C_6 A_6 D_6;obtain ⟨sgn,q1,r1,s1,q2,r2,s2,rfl⟩:=hvr.lit;obtain ⟨⟨e0,e1,e2,f0,f1,f2⟩,HPP,HV,HKF⟩:=BU T_7.out.rr T_7.out.k (Below.refl _ _) hvr (by omega);clear hvr;clear k7;obtain ⟨g0,g1,g2,_⟩:=T_7.out.ra.cells;obtain ⟨h0,h1,h2,_⟩:=T_7.out.rb.cells))
 obtain ⟨k0,k1,k2⟩:=HPP.out
 go_wp2
 exact bodyPost_ret (v:= .tuple #[.agg #[.bool sgn,.slice q1 r1 s1,.slice q2 r2 s2],.int .i64 0]) (by simp [results,Tryz.results147,go_sem,k0,k1,k2]) rfl ⟨_,rfl,HV.out,HKF.out⟩
set_option maxRecDepth 20000 in
theorem OG {w:World} {u:Value} {x:Rat} (hu:AA w u x) {v:Value} {y:Rat} (hv:AA w v y) {j k:Nat} (hs:RSz j x) (ht:RSz k y) (hj:j≤500000000) (hk:k≤500000000) (h0:y≠0):
  Calls Tryz.prog 118 #[u,v] w fun e w'=> ∃r,e= .returned r∧AA w' r (x/y)∧Kp w w':=by
 obtain ⟨a1,l1,c1,a2,l2,c2,rfl,m1,m2⟩:=hu.parts
 obtain ⟨a3,l3,c3,a4,l4,c4,rfl,m3,m4⟩:=hv.parts
 have HT:=Yg (Two.new w (.bool (decide (x.num<0))) (.slice a1 l1 c1) (.slice a2 l2 c2) (.bool (decide (y.num<0))) (.slice a3 l3 c3) (.slice a4 l4 c4))
 have HU:=Yg hu
 have HV:=Yg hv
 have CQ:=Yg (fun w' a b (ha:AA w' a x) (hb:AA w' b y)=>Je ha hb hs ht hj hk h0)
 obtain ⟨p,hp⟩: ∃b,b=decide (x.num<0):=⟨_,rfl⟩
 try rw [←hp] at HT
 try rw [←hp] at HU
 try rw [←hp] at HV
 try rw [←hp] at CQ
 try rw [←hp]
 have HPp:=Yg hp
 obtain ⟨q,hq⟩: ∃b,b=decide (y.num<0):=⟨_,rfl⟩
 try rw [←hq] at HT
 try rw [←hq] at HU
 try rw [←hq] at HV
 try rw [←hq] at CQ
 try rw [←hq]
 have HPq:=Yg hq
 clear hu m1 m2 hp hv m3 m4 hq
 clear h0
 go_enter Tryz.func118,Tryz.ntmps118
 have KN:=HT.out.k
 have U_e:=Yg (HU.out.kp KN)
 have V_e:=Yg (HV.out.kp KN)
 clear KN
 obtain ⟨g0,g1,g2,_⟩:=HT.out.ra.cells
 obtain ⟨h0,h1,h2,_⟩:=HT.out.rb.cells
 go_wp2_with (go_at_call 147;(with_reducible refine (CQ.out _ _ _ U_e.out V_e.out).mono ?_);rintro e w2 ⟨vr,rfl,hvr,k2⟩;refine Hid.out ?_)
 refine Yg ?_
 have T_2:=Yg (HT.out.kp k2)
 have U_2:=Yg (U_e.out.kp k2)
 have V_2:=Yg (V_e.out.kp k2)
 clear HT U_e V_e
 clear k2
 obtain ⟨sgn,q1,r1,s1,q2,r2,s2,rfl⟩:=hvr.lit
 have VR:=Yg hvr
 clear hvr
 have T_3:=Yg (T_2.out.kp (Kp.alloc _ (Obj.cells #[Value.bool sgn,Value.slice q1 r1 s1,Value.slice q2 r2 s2] 33)))
 have U_3:=Yg (U_2.out.kp (Kp.alloc _ (Obj.cells #[Value.bool sgn,Value.slice q1 r1 s1,Value.slice q2 r2 s2] 33)))
 have V_3:=Yg (V_2.out.kp (Kp.alloc _ (Obj.cells #[Value.bool sgn,Value.slice q1 r1 s1,Value.slice q2 r2 s2] 33)))
 have V9_3:=Yg (VR.out.kp (Kp.alloc _ (Obj.cells #[Value.bool sgn,Value.slice q1 r1 s1,Value.slice q2 r2 s2] 33)))
 clear T_2 U_2 V_2 VR
 obtain ⟨⟨e0,e1,e2,f0,f1,f2⟩,HPP,HV,HKF⟩:=BU T_3.out.rr T_3.out.k (Below.refl _ _) V9_3.out (by omega)
 obtain ⟨k0,k1,k2⟩:=HPP.out
 go_wp2
 exact bodyPost_ret (v:= .agg #[.bool sgn,.slice q1 r1 s1,.slice q2 r2 s2]) (by simp [results,Tryz.results118,go_sem,k0,k1,k2]) rfl ⟨_,rfl,HV.out,HKF.out⟩
end Go.Proofs.YtkmalkcgkcpcmaaGreatDoor
