/-
  Several texts in one: Rqm, Rq2.
-/
import Derived.Test.YtfineedhebhpaaaGreatDoorBy
import Derived.Test.YtfineedhebhpaaaGreatDoorBr
namespace Go.Proofs.YtfineedhebhpaaaGreatDoor
open Lib renaming hid→Xu
set_option maxHeartbeats 16000000
open Go.RowKit
set_option maxRecDepth 20000 in
theorem QZ {w:World} {u v:Value} {x y:Rat} (hu:Ax w u x) (hv:Ax w v y) {j k:Nat} (hs:RSz j x) (ht:RSz k y) (hj:j≤500000000) (hk:k≤500000000):
  Calls Tryz.prog 54 #[u,v] w fun e w'=> ∃r,e= .returned r∧Ax w' r (x*y)∧Kp w w':=by
 have hres:AH (decide (x.num<0) !=decide (y.num<0)) (x.num.natAbs*y.num.natAbs) (x.den*y.den)=x*y:=by rw [←F3,BJ,BJ]
 rw [←hres]
 obtain ⟨a1,l1,c1,a2,l2,c2,rfl,m1,m2⟩:=hu.parts
 obtain ⟨a3,l3,c3,a4,l4,c4,rfl,m3,m4⟩:=hv.parts
 have HP:=Xu (Two.new w (.bool (decide (x.num<0))) (.slice a1 l1 c1) (.slice a2 l2 c2) (.bool (decide (y.num<0))) (.slice a3 l3 c3) (.slice a4 l4 c4))
 have HMN:=Xu (fun w' (kk:Kp w w')=>Ci (m1.kp kk) (m3.kp kk) hs.1 ht.1 (by omega) (by omega))
 have HDA:=Xu (fun w' (kk:Kp w w')=>EL (s:=decide (x.num<0)) (m1.kp kk) (m2.kp kk))
 have HDB:=Xu (fun w' (kk:Kp w w')=>EL (s:=decide (y.num<0)) (m3.kp kk) (m4.kp kk))
 have HMD:=Xu (fun w' va vb (ma:M w' va x.den) (mb:M w' vb y.den)=>Ci ma mb hs.2 ht.2 (by omega) (by omega))
 have hd0:x.den*y.den≠0:=Nat.mul_ne_zero x.den_nz y.den_nz
 have HR:=Xu (fun w' s va vb (ma:M w' va (x.num.natAbs*y.num.natAbs)) (mb:M w' vb (x.den*y.den))=>FH (neg:=s) ma mb (hs.1.mul ht.1) (hs.2.mul ht.2) (by omega) (by omega) hd0)
 obtain ⟨p,hp⟩: ∃p,p=decide (x.num<0):=⟨_,rfl⟩
 obtain ⟨q,hq⟩: ∃q,q=decide (y.num<0):=⟨_,rfl⟩
 rw [←hp] at HP HDA⊢
 rw [←hq] at HP HDB⊢
 clear hu hv hp hq hs ht m1 m2 m3 m4 hd0 hres
 go_enter Tryz.func54,Tryz.ntmps54
 have n1: ¬(w.heap.size+1+1=w.heap.size):=by omega
 have n2: ¬(w.heap.size=w.heap.size+1+1):=by omega
 go_wp2_with fail
 obtain ⟨g0,g1,g2,_⟩:=HP.out.ra.cells
 obtain ⟨h0,h1,h2,_⟩:=HP.out.rb.cells
 go_region_held3 (fun w'=>w'.cell? ⟨w.heap.size,0,none⟩=some (.bool p)∧w'.cell? ⟨w.heap.size,1,none⟩=some (.slice a1 l1 c1)∧w'.cell? ⟨w.heap.size,2,none⟩=some (.slice a2 l2 c2)∧w'.cell? ⟨w.heap.size+1,0,none⟩=some (.bool q)∧w'.cell? ⟨w.heap.size+1,1,none⟩=some (.slice a3 l3 c3)∧w'.cell? ⟨w.heap.size+1,2,none⟩=some (.slice a4 l4 c4))
  (first|(refine ⟨?_,?_,?_,?_,?_,?_⟩<;>assumption)|go_keep)
  (first
   | (go_at_call 127;(with_reducible refine (HMN.out _ (by repeat first|exact HP.out.k|apply Kp.on|apply Kp.up)).mono ?_);rintro e w1 ⟨vn,rfl,hvn,K1⟩;have MN:=Xu hvn;have T1:=Xu ((HP.out.kp (Below.refl _ _).drew).kp K1);obtain ⟨g0,g1,g2,_⟩:=T1.out.ra.cells;obtain ⟨h0,h1,h2,_⟩:=T1.out.rb.cells;clear hvn K1)
   | (go_at_call 128;(with_reducible refine (HDA.out _ (by repeat first|exact T1.out.k|apply Kp.on|apply Kp.up)).mono ?_);rintro e w2 ⟨va,rfl,hva,K2⟩;have MA:=Xu hva;have T2:=Xu (T1.out.kp K2);have MN2:=Xu (MN.out.kp K2);obtain ⟨g0,g1,g2,_⟩:=T2.out.ra.cells;obtain ⟨h0,h1,h2,_⟩:=T2.out.rb.cells;clear hva K2)
   | (go_at_call 128;(with_reducible refine (HDB.out _ (by repeat first|exact T2.out.k|apply Kp.on|apply Kp.up)).mono ?_);rintro e w3 ⟨vb,rfl,hvb,K3⟩;have MB:=Xu hvb;have T3:=Xu (T2.out.kp K3);have MA3:=Xu (MA.out.kp K3);have MN3:=Xu (MN2.out.kp K3);obtain ⟨g0,g1,g2,_⟩:=T3.out.ra.cells;obtain ⟨h0,h1,h2,_⟩:=T3.out.rb.cells;clear hvb K3)
   | (go_at_call 127;(with_reducible refine (HMD.out _ _ _ MA3.out MB.out).mono ?_);rintro e w4 ⟨vd,rfl,hvd,K4⟩;have MD:=Xu hvd;have T4:=Xu (T3.out.kp K4);have MN4:=Xu (MN3.out.kp K4);obtain ⟨g0,g1,g2,_⟩:=T4.out.ra.cells;obtain ⟨h0,h1,h2,_⟩:=T4.out.rb.cells;clear hvd K4)
   | (go_at_call 126;(with_reducible refine (HR.out _ _ _ _ MN4.out MD.out).mono ?_);rintro e wz ⟨vr,rfl,hvr,kz⟩;obtain ⟨sgn,q1,r1,s1,q2,r2,s2,rfl⟩:=hvr.lit;obtain ⟨⟨e0,e1,e2,f0,f1,f2⟩,HPP,HV,HKF⟩:=BR T4.out.rr T4.out.k kz hvr (by omega);have T5:=Xu (T4.out.kp kz);obtain ⟨g0,g1,g2,_⟩:=T5.out.ra.cells;obtain ⟨h0,h1,h2,_⟩:=T5.out.rb.cells;clear hvr kz))
 obtain ⟨k0,k1,k2⟩:=HPP.out
 go_wp2
 exact bodyPost_ret (v:= .agg #[.bool sgn,.slice q1 r1 s1,.slice q2 r2 s2]) (by simp [results,Tryz.results54,go_sem,k0,k1,k2]) rfl ⟨_,rfl,HV.out,HKF.out⟩
end Go.Proofs.YtfineedhebhpaaaGreatDoor
