/-
  numbers.Denominator, by walking its text.
-/
import Derived.Test.YtnkobfcnflphkaaGreatDoorGk
import Derived.Test.YtnkobfcnflphkaaGreatDoorHz
namespace Go.Proofs.YtnkobfcnflphkaaGreatDoor
open Go.RowKit
set_option linter.unusedVariables false
set_option linter.unusedSimpArgs false
theorem denQ_of (x:Rat):ratOf false x.den 1=denQ x:=by
 unfold ratOf denQ
 rw [Rat.mkRat_one]
 rfl
theorem rsz_denQ {j:Nat} {x:Rat} (h:RSz j x):RSz (j+1) (ratOf false x.den 1):=by
 obtain ⟨e1,e2⟩:=ratOf_parts (n:=x.den) (d:=1) false (by decide) (Nat.gcd_one_right _)
 refine ⟨?_,?_⟩
 ·rw [e1,sg_natAbs];exact h.2.mono (by omega)
 ·rw [e2];exact length_toL_le _ _ (by
   have:(4294967296:Nat)^(j+1)≥4294967296^1:=Nat.pow_le_pow_right (by decide) (by omega)
   omega)
set_option maxRecDepth 20000 in
set_option maxHeartbeats 4000000 in
theorem den_one {w:World} {u:Value} {x:Rat} (hu:RatV w u x) (h1:x.den=1) (hT:Tz w):
  Calls Tryz.prog 148 #[u] w fun e w'=> ∃r,e= .returned r∧RatV w' r (denQ x)∧Kp w w':=by
 have hx:denQ x=((1:Int):Rat):=by unfold denQ;rw [h1];rfl
 rw [hx]
 obtain ⟨a1,l1,c1,a2,l2,c2,rfl,m1,m2⟩:=hu.parts
 have HT:=Lib.hid (One.new w (.bool (decide (x.num<0))) (.slice a1 l1 c1) (.slice a2 l2 c2))
 have Hm2:=Lib.hid m2
 have HZ:=Lib.hid hT
 have CW:=Lib.hid (fun w' (t:Tz w')=>qint_any (w:=w') 1 (by decide) (by decide) t)
 obtain ⟨p,hp⟩: ∃b,b=decide (x.num<0):=⟨_,rfl⟩
 try rw [←hp] at HT
 try rw [←hp]
 clear hu m1 m2 hp hT hx
 obtain rfl:=(m_len_zero' Hm2.out).2 (by unfold denOf;rw [if_pos h1])
 clear h1
 go_enter Tryz.func148,Tryz.ntmps148
 have KN:=HT.out.k
 have Z_e:=Lib.hid (HZ.out.kp KN)
 clear KN
 obtain ⟨g0,g1,g2,_⟩:=HT.out.ra.cells
 go_wp2_with (go_at_call 123;(with_reducible refine (CW.out _ Z_e.out).mono ?_);rintro e w2 ⟨vr,rfl,hvr,k2⟩;refine Hid.out ?_)
 refine Lib.hid ?_
 have T_2:=Lib.hid (HT.out.kp k2)
 clear HT
 clear k2
 obtain ⟨sgn,q1,r1,s1,q2,r2,s2,rfl⟩:=hvr.lit
 obtain ⟨⟨e0,e1,e2,f0,f1,f2⟩,HPP,HV,HKF⟩:=rat_ends T_2.out.rr T_2.out.k (Below.refl _ _) hvr (by omega)
 clear hvr
 obtain ⟨k0,k1,k2⟩:=HPP.out
 go_wp2
 exact bodyPost_ret (v:= .agg #[.bool sgn,.slice q1 r1 s1,.slice q2 r2 s2]) (by simp [results,Tryz.results148,go_sem,k0,k1,k2]) rfl ⟨_,rfl,HV.out,HKF.out⟩
set_option maxRecDepth 20000 in
set_option maxHeartbeats 4000000 in
theorem den_more {w:World} {u:Value} {x:Rat} (hu:RatV w u x) {j:Nat} (hs:RSz j x) (hj:j≤200000000) (h1:x.den≠1):
  Calls Tryz.prog 148 #[u] w fun e w'=> ∃r,e= .returned r∧RatV w' r (denQ x)∧Kp w w':=by
 have hdn:denOf x=x.den:=by unfold denOf;rw [if_neg h1]
 obtain ⟨e1,e2⟩:=ratOf_parts (n:=x.den) (d:=1) false (by decide) (Nat.gcd_one_right _)
 obtain ⟨a1,l1,c1,a2,l2,c2,rfl,m1,m2⟩:=hu.parts
 have HT:=Lib.hid (One.new w (.bool (decide (x.num<0))) (.slice a1 l1 c1) (.slice a2 l2 c2))
 have Hm2:=Lib.hid m2
 have CA:=Lib.hid (fun w' (m:M w' (.slice a2 l2 c2) (denOf x))=>(show Calls Tryz.prog 178 #[.agg #[.bool false,.slice a2 l2 c2,.slice none 0 0]] w' fun e w2=> ∃r,e= .returned r∧RatV w2 r (denQ x)∧Kp w' w2 from by
  have hr:RatV w' (.agg #[.bool false,.slice a2 l2 c2,.slice none 0 0]) (ratOf false x.den 1):=RatV.of (by decide) (Nat.gcd_one_right _) (by rw [←hdn];exact m) (by rw [if_pos rfl];exact m_nil0 w') (fun _=>rfl)
  have h:=qabs_any hr (rsz_denQ hs) (by omega)
  rw [e1,e2,sg_natAbs,denQ_of] at h
  exact h))
 obtain ⟨p,hp⟩: ∃b,b=decide (x.num<0):=⟨_,rfl⟩
 try rw [←hp] at HT
 try rw [←hp]
 have hl2:0<l2:=by have:=m_len_zero' Hm2.out;rw [hdn] at this;have:=x.den_nz;omega
 have hl2z:((l2:Int)==0)=false:=beq_eq_false_iff_ne.2 (by omega)
 clear hu m1 m2 hp e1 e2 hdn hs hj h1
 go_enter Tryz.func148,Tryz.ntmps148
 have KN:=HT.out.k
 have m2_e:=Lib.hid (Hm2.out.kp KN)
 clear KN
 obtain ⟨g0,g1,g2,_⟩:=HT.out.ra.cells
 go_wp2_with (go_at_call 178;(with_reducible refine (CA.out _ m2_e.out).mono ?_);rintro e w2 ⟨vr,rfl,hvr,k2⟩;refine Hid.out ?_)
 refine Lib.hid ?_
 have T_2:=Lib.hid (HT.out.kp k2)
 clear HT
 clear k2
 obtain ⟨sgn,q1,r1,s1,q2,r2,s2,rfl⟩:=hvr.lit
 obtain ⟨⟨e0,e1,e2,f0,f1,f2⟩,HPP,HV,HKF⟩:=rat_ends T_2.out.rr T_2.out.k (Below.refl _ _) hvr (by omega)
 clear hvr
 obtain ⟨k0,k1,k2⟩:=HPP.out
 go_wp2
 exact bodyPost_ret (v:= .agg #[.bool sgn,.slice q1 r1 s1,.slice q2 r2 s2]) (by simp [results,Tryz.results148,go_sem,k0,k1,k2]) rfl ⟨_,rfl,HV.out,HKF.out⟩
theorem c_den {j:Nat} {x:Rat} (hj:j≤100000000):Ctr Tryz.prog Amb 148 [nm j x] (nm (j+2) (denQ x)):=
 ctr_q (fun w u t hu hs=>by
  by_cases h1:x.den=1
  ·exact den_one hu h1 t
  ·exact den_more hu hs (by omega) h1) fun hs=>by rw [←denQ_of];exact rsz_denQ hs
end Go.Proofs.YtnkobfcnflphkaaGreatDoor
