/-
  Several texts in one: Rqm, Rq2.
-/
import Derived.Test.YtoabfmaagnmlhaaGreatDoorBy
import Derived.Test.YtoabfmaagnmlhaaGreatDoorBr
namespace Go.Proofs.YtoabfmaagnmlhaaGreatDoor
open Lib renaming hid→UF
set_option maxHeartbeats 16000000
open Go.RowKit
set_option maxRecDepth 20000 in
theorem OG {w:World} {u v:Value} {x y:Rat} (hu:AE w u x) (hv:AE w v y) {j k:Nat} (hs:RSz j x) (ht:RSz k y) (hj:j≤500000000) (hk:k≤500000000):
  Calls Tryz.prog 79 #[u,v] w fun e w'=> ∃r,e= .returned r∧AE w' r (x*y)∧Kp w w':=by
 have hres:AP (decide (x.num<0) !=decide (y.num<0)) (x.num.natAbs*y.num.natAbs) (x.den*y.den)=x*y:=by rw [←El,BB,BB]
 rw [←hres]
 obtain ⟨a1,l1,c1,a2,l2,c2,rfl,m1,m2⟩:=hu.parts
 obtain ⟨a3,l3,c3,a4,l4,c4,rfl,m3,m4⟩:=hv.parts
 have HP:=UF (Two.new w (.bool (decide (x.num<0))) (.slice a1 l1 c1) (.slice a2 l2 c2) (.bool (decide (y.num<0))) (.slice a3 l3 c3) (.slice a4 l4 c4))
 have HMN:=UF (fun w' (kk:Kp w w')=>BS (m1.kp kk) (m3.kp kk) hs.1 ht.1 (by omega) (by omega))
 have HDA:=UF (fun w' (kk:Kp w w')=>Dr (s:=decide (x.num<0)) (m1.kp kk) (m2.kp kk))
 have HDB:=UF (fun w' (kk:Kp w w')=>Dr (s:=decide (y.num<0)) (m3.kp kk) (m4.kp kk))
 have HMD:=UF (fun w' va vb (ma:M w' va x.den) (mb:M w' vb y.den)=>BS ma mb hs.2 ht.2 (by omega) (by omega))
 have hd0:x.den*y.den≠0:=Nat.mul_ne_zero x.den_nz y.den_nz
 have HR:=UF (fun w' s va vb (ma:M w' va (x.num.natAbs*y.num.natAbs)) (mb:M w' vb (x.den*y.den))=>Ek (neg:=s) ma mb (hs.1.mul ht.1) (hs.2.mul ht.2) (by omega) (by omega) hd0)
 obtain ⟨p,hp⟩: ∃p,p=decide (x.num<0):=⟨_,rfl⟩
 obtain ⟨q,hq⟩: ∃q,q=decide (y.num<0):=⟨_,rfl⟩
 rw [←hp] at HP HDA⊢
 rw [←hq] at HP HDB⊢
 clear hu hv hp hq hs ht m1 m2 m3 m4 hd0 hres
 go_enter Tryz.func79,Tryz.ntmps79
 have n1: ¬(w.heap.size+1+1=w.heap.size):=by omega
 have n2: ¬(w.heap.size=w.heap.size+1+1):=by omega
 go_wp2_with fail
 obtain ⟨g0,g1,g2,_⟩:=HP.out.ra.cells
 obtain ⟨h0,h1,h2,_⟩:=HP.out.rb.cells
 go_region_held3 (fun w'=>w'.cell? ⟨w.heap.size,0,none⟩=some (.bool p)∧w'.cell? ⟨w.heap.size,1,none⟩=some (.slice a1 l1 c1)∧w'.cell? ⟨w.heap.size,2,none⟩=some (.slice a2 l2 c2)∧w'.cell? ⟨w.heap.size+1,0,none⟩=some (.bool q)∧w'.cell? ⟨w.heap.size+1,1,none⟩=some (.slice a3 l3 c3)∧w'.cell? ⟨w.heap.size+1,2,none⟩=some (.slice a4 l4 c4))
  (first|(refine ⟨?_,?_,?_,?_,?_,?_⟩<;>assumption)|go_keep)
  (first
   | (go_at_call 85;(with_reducible refine (HMN.out _ (by repeat first|exact HP.out.k|apply Kp.on|apply Kp.up)).mono ?_);rintro e w1 ⟨vn,rfl,hvn,K1⟩;have MN:=UF hvn;have T1:=UF ((HP.out.kp (Below.refl _ _).drew).kp K1);obtain ⟨g0,g1,g2,_⟩:=T1.out.ra.cells;obtain ⟨h0,h1,h2,_⟩:=T1.out.rb.cells;clear hvn K1)
   | (go_at_call 86;(with_reducible refine (HDA.out _ (by repeat first|exact T1.out.k|apply Kp.on|apply Kp.up)).mono ?_);rintro e w2 ⟨va,rfl,hva,K2⟩;have MA:=UF hva;have T2:=UF (T1.out.kp K2);have MN2:=UF (MN.out.kp K2);obtain ⟨g0,g1,g2,_⟩:=T2.out.ra.cells;obtain ⟨h0,h1,h2,_⟩:=T2.out.rb.cells;clear hva K2)
   | (go_at_call 86;(with_reducible refine (HDB.out _ (by repeat first|exact T2.out.k|apply Kp.on|apply Kp.up)).mono ?_);rintro e w3 ⟨vb,rfl,hvb,K3⟩;have MB:=UF hvb;have T3:=UF (T2.out.kp K3);have MA3:=UF (MA.out.kp K3);have MN3:=UF (MN2.out.kp K3);obtain ⟨g0,g1,g2,_⟩:=T3.out.ra.cells;obtain ⟨h0,h1,h2,_⟩:=T3.out.rb.cells;clear hvb K3)
   | (go_at_call 85;(with_reducible refine (HMD.out _ _ _ MA3.out MB.out).mono ?_);rintro e w4 ⟨vd,rfl,hvd,K4⟩;have MD:=UF hvd;have T4:=UF (T3.out.kp K4);have MN4:=UF (MN3.out.kp K4);obtain ⟨g0,g1,g2,_⟩:=T4.out.ra.cells;obtain ⟨h0,h1,h2,_⟩:=T4.out.rb.cells;clear hvd K4)
   | (go_at_call 96;(with_reducible refine (HR.out _ _ _ _ MN4.out MD.out).mono ?_);rintro e wz ⟨vr,rfl,hvr,kz⟩;obtain ⟨sgn,q1,r1,s1,q2,r2,s2,rfl⟩:=hvr.lit;obtain ⟨⟨e0,e1,e2,f0,f1,f2⟩,HPP,HV,HKF⟩:=BH T4.out.rr T4.out.k kz hvr (by omega);have T5:=UF (T4.out.kp kz);obtain ⟨g0,g1,g2,_⟩:=T5.out.ra.cells;obtain ⟨h0,h1,h2,_⟩:=T5.out.rb.cells;clear hvr kz))
 obtain ⟨k0,k1,k2⟩:=HPP.out
 go_wp2
 exact bodyPost_ret (v:= .agg #[.bool sgn,.slice q1 r1 s1,.slice q2 r2 s2]) (by simp [results,Tryz.results79,go_sem,k0,k1,k2]) rfl ⟨_,rfl,HV.out,HKF.out⟩
theorem Mh {w:World} {u:Value} {x:Rat} (hu:AE w u x) {v:Value} {y:Rat} (hv:AE w v y) {j k:Nat} (hs:RSz j x) (ht:RSz k y) (hj:j≤500000000) (hk:k≤500000000) (h0:y≠0):
  Calls Tryz.prog 114 #[u,v] w fun e w'=> ∃r,e= .returned (.tuple #[r,.int .i64 0])∧AE w' r (x/y)∧Kp w w':=by
 have hy0:y.num.natAbs≠0:=fun e=>h0 (Rat.num_eq_zero.1 (Int.natAbs_eq_zero.1 e))
 have hres:AP (decide (x.num<0) !=decide (y.num<0)) (x.num.natAbs*y.den) (x.den*y.num.natAbs)=x/y:=by
  rw [←El,BB,←IQ _ hy0 y.den_nz,BB,Rat.div_def]
 rw [←hres]
 clear hres
 have hd0:x.den*y.num.natAbs≠0:=Nat.mul_ne_zero x.den_nz hy0
 obtain ⟨a1,l1,c1,a2,l2,c2,rfl,m1,m2⟩:=hu.parts
 obtain ⟨a3,l3,c3,a4,l4,c4,rfl,m3,m4⟩:=hv.parts
 have HT:=UF (Two.new w (.bool (decide (x.num<0))) (.slice a1 l1 c1) (.slice a2 l2 c2) (.bool (decide (y.num<0))) (.slice a3 l3 c3) (.slice a4 l4 c4))
 have HU:=UF hu
 have Hm1:=UF m1
 have Hm2:=UF m2
 have HV:=UF hv
 have Hm3:=UF m3
 have Hm4:=UF m4
 have CDA:=UF (fun w' (a:M w' (.slice a1 l1 c1) x.num.natAbs) (b:M w' (.slice a2 l2 c2) (A0 x))=>Dr (s:=decide (x.num<0)) a b)
 have CDB:=UF (fun w' (a:M w' (.slice a3 l3 c3) y.num.natAbs) (b:M w' (.slice a4 l4 c4) (A0 y))=>Dr (s:=decide (y.num<0)) a b)
 have CM1:=UF (fun w' va vb (a:M w' va (x.num.natAbs)) (b:M w' vb (y.den))=>BS a b hs.1 ht.2 (by omega) (by omega))
 have CM2:=UF (fun w' va vb (a:M w' va (x.den)) (b:M w' vb (y.num.natAbs))=>BS a b hs.2 ht.1 (by omega) (by omega))
 have CR:=UF (fun w' s va vb (a:M w' va (x.num.natAbs*y.den)) (b:M w' vb (x.den*y.num.natAbs))=>Ek (neg:=s) a b (hs.1.mul ht.2) (hs.2.mul ht.1) (by omega) (by omega) hd0)
 obtain ⟨p,hp⟩: ∃b,b=decide (x.num<0):=⟨_,rfl⟩
 try rw [←hp] at HT
 try rw [←hp] at HU
 try rw [←hp] at Hm1
 try rw [←hp] at Hm2
 try rw [←hp] at HV
 try rw [←hp] at Hm3
 try rw [←hp] at Hm4
 try rw [←hp] at CDA
 try rw [←hp] at CDB
 try rw [←hp] at CM1
 try rw [←hp] at CM2
 try rw [←hp] at CR
 try rw [←hp]
 have HPp:=UF hp
 obtain ⟨q,hq⟩: ∃b,b=decide (y.num<0):=⟨_,rfl⟩
 try rw [←hq] at HT
 try rw [←hq] at HU
 try rw [←hq] at Hm1
 try rw [←hq] at Hm2
 try rw [←hq] at HV
 try rw [←hq] at Hm3
 try rw [←hq] at Hm4
 try rw [←hq] at CDA
 try rw [←hq] at CDB
 try rw [←hq] at CM1
 try rw [←hq] at CM2
 try rw [←hq] at CR
 try rw [←hq]
 have HPq:=UF hq
 clear hu m1 m2 hp hv m3 m4 hq
 have hl3:0<l3:=by have:=B5 Hm3.out;omega
 have hl3z:((l3:Int)==0)=false:=beq_eq_false_iff_ne.2 (by omega)
 clear hd0 hy0 h0
 go_enter Tryz.func114,Tryz.ntmps114
 have KN:=HT.out.k
 have U_e:=UF (HU.out.kp KN)
 have m1_e:=UF (Hm1.out.kp KN)
 have m2_e:=UF (Hm2.out.kp KN)
 have V_e:=UF (HV.out.kp KN)
 have m3_e:=UF (Hm3.out.kp KN)
 have m4_e:=UF (Hm4.out.kp KN)
 clear KN
 obtain ⟨g0,g1,g2,_⟩:=HT.out.ra.cells
 obtain ⟨h0,h1,h2,_⟩:=HT.out.rb.cells
 have n1: ¬(w.heap.size+1+1=w.heap.size):=by omega
 have n2: ¬(w.heap.size=w.heap.size+1+1):=by omega
 go_wp2_with fail
 have T_2:=UF (HT.out.kp (Below.refl _ _).drew)
 have U_2:=UF (U_e.out.kp (Below.refl _ _).drew)
 have m1_2:=UF (m1_e.out.kp (Below.refl _ _).drew)
 have m2_2:=UF (m2_e.out.kp (Below.refl _ _).drew)
 have V_2:=UF (V_e.out.kp (Below.refl _ _).drew)
 have m3_2:=UF (m3_e.out.kp (Below.refl _ _).drew)
 have m4_2:=UF (m4_e.out.kp (Below.refl _ _).drew)
 clear HT U_e m1_e m2_e V_e m3_e m4_e
 go_region_held3 (fun w'=>w'.cell? ⟨w.heap.size,0,none⟩=some (.bool p)∧w'.cell? ⟨w.heap.size,1,none⟩=some (.slice a1 l1 c1)∧w'.cell? ⟨w.heap.size,2,none⟩=some (.slice a2 l2 c2)∧w'.cell? ⟨w.heap.size+1,0,none⟩=some (.bool q)∧w'.cell? ⟨w.heap.size+1,1,none⟩=some (.slice a3 l3 c3)∧w'.cell? ⟨w.heap.size+1,2,none⟩=some (.slice a4 l4 c4))
  (first|(refine ⟨?_,?_,?_,?_,?_,?_⟩<;>assumption)|go_keep)
  (first
   | (go_at_call 86;(with_reducible refine (CDB.out _ m3_2.out m4_2.out).mono ?_);rintro e w3 ⟨vB,rfl,hB,k3⟩;have T_3:=UF (T_2.out.kp k3);have U_3:=UF (U_2.out.kp k3);have m1_3:=UF (m1_2.out.kp k3);have m2_3:=UF (m2_2.out.kp k3);have V_3:=UF (V_2.out.kp k3);have m3_3:=UF (m3_2.out.kp k3);have m4_3:=UF (m4_2.out.kp k3);clear T_2 U_2 m1_2 m2_2 V_2 m3_2 m4_2;have B_3:=UF hB;clear hB k3;obtain ⟨g0,g1,g2,_⟩:=T_3.out.ra.cells;obtain ⟨h0,h1,h2,_⟩:=T_3.out.rb.cells)
   | (go_at_call 85;(with_reducible refine (CM1.out _ _ _ m1_3.out B_3.out).mono ?_);rintro e w4 ⟨vC,rfl,hC,k4⟩;have T_4:=UF (T_3.out.kp k4);have U_4:=UF (U_3.out.kp k4);have m1_4:=UF (m1_3.out.kp k4);have m2_4:=UF (m2_3.out.kp k4);have V_4:=UF (V_3.out.kp k4);have m3_4:=UF (m3_3.out.kp k4);have m4_4:=UF (m4_3.out.kp k4);have B_4:=UF (B_3.out.kp k4);clear T_3 U_3 m1_3 m2_3 V_3 m3_3 m4_3 B_3;have C_4:=UF hC;clear hC k4;obtain ⟨g0,g1,g2,_⟩:=T_4.out.ra.cells;obtain ⟨h0,h1,h2,_⟩:=T_4.out.rb.cells)
   | (go_at_call 86;(with_reducible refine (CDA.out _ m1_4.out m2_4.out).mono ?_);rintro e w5 ⟨vA,rfl,hA,k5⟩;have T_5:=UF (T_4.out.kp k5);have U_5:=UF (U_4.out.kp k5);have m1_5:=UF (m1_4.out.kp k5);have m2_5:=UF (m2_4.out.kp k5);have V_5:=UF (V_4.out.kp k5);have m3_5:=UF (m3_4.out.kp k5);have m4_5:=UF (m4_4.out.kp k5);have B_5:=UF (B_4.out.kp k5);have C_5:=UF (C_4.out.kp k5);clear T_4 U_4 m1_4 m2_4 V_4 m3_4 m4_4 B_4 C_4;have A_5:=UF hA;clear hA k5;obtain ⟨g0,g1,g2,_⟩:=T_5.out.ra.cells;obtain ⟨h0,h1,h2,_⟩:=T_5.out.rb.cells)
   | (go_at_call 85;(with_reducible refine (CM2.out _ _ _ A_5.out m3_5.out).mono ?_);rintro e w6 ⟨vD,rfl,hD,k6⟩;have T_6:=UF (T_5.out.kp k6);have U_6:=UF (U_5.out.kp k6);have m1_6:=UF (m1_5.out.kp k6);have m2_6:=UF (m2_5.out.kp k6);have V_6:=UF (V_5.out.kp k6);have m3_6:=UF (m3_5.out.kp k6);have m4_6:=UF (m4_5.out.kp k6);have B_6:=UF (B_5.out.kp k6);have C_6:=UF (C_5.out.kp k6);have A_6:=UF (A_5.out.kp k6);clear T_5 U_5 m1_5 m2_5 V_5 m3_5 m4_5 B_5 C_5 A_5;have D_6:=UF hD;clear hD k6;obtain ⟨g0,g1,g2,_⟩:=T_6.out.ra.cells;obtain ⟨h0,h1,h2,_⟩:=T_6.out.rb.cells)
   | (go_at_call 96;(with_reducible refine (CR.out _ _ _ _ C_6.out D_6.out).mono ?_);rintro e w7 ⟨vr,rfl,hvr,k7⟩;have T_7:=UF (T_6.out.kp k7);have U_7:=UF (U_6.out.kp k7);have m1_7:=UF (m1_6.out.kp k7);have m2_7:=UF (m2_6.out.kp k7);have V_7:=UF (V_6.out.kp k7);have m3_7:=UF (m3_6.out.kp k7);have m4_7:=UF (m4_6.out.kp k7);have B_7:=UF (B_6.out.kp k7);have C_7:=UF (C_6.out.kp k7);have A_7:=UF (A_6.out.kp k7);have D_7:=UF (D_6.out.kp k7);clear T_6 U_6 m1_6 m2_6 V_6 m3_6 m4_6 B_6 C_6 A_6 D_6;obtain ⟨sgn,q1,r1,s1,q2,r2,s2,rfl⟩:=hvr.lit;obtain ⟨⟨e0,e1,e2,f0,f1,f2⟩,HPP,HV,HKF⟩:=BH T_7.out.rr T_7.out.k (Below.refl _ _) hvr (by omega);clear hvr;clear k7;obtain ⟨g0,g1,g2,_⟩:=T_7.out.ra.cells;obtain ⟨h0,h1,h2,_⟩:=T_7.out.rb.cells))
 obtain ⟨k0,k1,k2⟩:=HPP.out
 go_wp2
 exact bodyPost_ret (v:= .tuple #[.agg #[.bool sgn,.slice q1 r1 s1,.slice q2 r2 s2],.int .i64 0]) (by simp [results,Tryz.results114,go_sem,k0,k1,k2]) rfl ⟨_,rfl,HV.out,HKF.out⟩
set_option maxRecDepth 20000 in
theorem Mi {w:World} {u:Value} {x:Rat} (hu:AE w u x) {v:Value} {y:Rat} (hv:AE w v y) {j k:Nat} (hs:RSz j x) (ht:RSz k y) (hj:j≤500000000) (hk:k≤500000000) (h0:y≠0):
  Calls Tryz.prog 77 #[u,v] w fun e w'=> ∃r,e= .returned r∧AE w' r (x/y)∧Kp w w':=by
 obtain ⟨a1,l1,c1,a2,l2,c2,rfl,m1,m2⟩:=hu.parts
 obtain ⟨a3,l3,c3,a4,l4,c4,rfl,m3,m4⟩:=hv.parts
 have HT:=UF (Two.new w (.bool (decide (x.num<0))) (.slice a1 l1 c1) (.slice a2 l2 c2) (.bool (decide (y.num<0))) (.slice a3 l3 c3) (.slice a4 l4 c4))
 have HU:=UF hu
 have HV:=UF hv
 have CQ:=UF (fun w' a b (ha:AE w' a x) (hb:AE w' b y)=>Mh ha hb hs ht hj hk h0)
 obtain ⟨p,hp⟩: ∃b,b=decide (x.num<0):=⟨_,rfl⟩
 try rw [←hp] at HT
 try rw [←hp] at HU
 try rw [←hp] at HV
 try rw [←hp] at CQ
 try rw [←hp]
 have HPp:=UF hp
 obtain ⟨q,hq⟩: ∃b,b=decide (y.num<0):=⟨_,rfl⟩
 try rw [←hq] at HT
 try rw [←hq] at HU
 try rw [←hq] at HV
 try rw [←hq] at CQ
 try rw [←hq]
 have HPq:=UF hq
 clear hu m1 m2 hp hv m3 m4 hq
 clear h0
 go_enter Tryz.func77,Tryz.ntmps77
 have KN:=HT.out.k
 have U_e:=UF (HU.out.kp KN)
 have V_e:=UF (HV.out.kp KN)
 clear KN
 obtain ⟨g0,g1,g2,_⟩:=HT.out.ra.cells
 obtain ⟨h0,h1,h2,_⟩:=HT.out.rb.cells
 go_wp2_with (go_at_call 114;(with_reducible refine (CQ.out _ _ _ U_e.out V_e.out).mono ?_);rintro e w2 ⟨vr,rfl,hvr,k2⟩;refine Hid.out ?_)
 refine UF ?_
 have T_2:=UF (HT.out.kp k2)
 have U_2:=UF (U_e.out.kp k2)
 have V_2:=UF (V_e.out.kp k2)
 clear HT U_e V_e
 clear k2
 obtain ⟨sgn,q1,r1,s1,q2,r2,s2,rfl⟩:=hvr.lit
 have VR:=UF hvr
 clear hvr
 have T_3:=UF (T_2.out.kp (Kp.alloc _ (Obj.cells #[Value.bool sgn,Value.slice q1 r1 s1,Value.slice q2 r2 s2] 33)))
 have U_3:=UF (U_2.out.kp (Kp.alloc _ (Obj.cells #[Value.bool sgn,Value.slice q1 r1 s1,Value.slice q2 r2 s2] 33)))
 have V_3:=UF (V_2.out.kp (Kp.alloc _ (Obj.cells #[Value.bool sgn,Value.slice q1 r1 s1,Value.slice q2 r2 s2] 33)))
 have V9_3:=UF (VR.out.kp (Kp.alloc _ (Obj.cells #[Value.bool sgn,Value.slice q1 r1 s1,Value.slice q2 r2 s2] 33)))
 clear T_2 U_2 V_2 VR
 obtain ⟨⟨e0,e1,e2,f0,f1,f2⟩,HPP,HV,HKF⟩:=BH T_3.out.rr T_3.out.k (Below.refl _ _) V9_3.out (by omega)
 obtain ⟨k0,k1,k2⟩:=HPP.out
 go_wp2
 exact bodyPost_ret (v:= .agg #[.bool sgn,.slice q1 r1 s1,.slice q2 r2 s2]) (by simp [results,Tryz.results77,go_sem,k0,k1,k2]) rfl ⟨_,rfl,HV.out,HKF.out⟩
end Go.Proofs.YtoabfmaagnmlhaaGreatDoor
