/-
  numbers.Denominator, by walking its text.
-/
import Derived.Test.YtnkobfcnflphkaaGreatDoorGk
import Derived.Test.YtnkobfcnflphkaaGreatDoorHz
namespace Go.Proofs.YtnkobfcnflphkaaGreatDoor
open Lib renaming hid→Zb
set_option maxHeartbeats 16000000
open Go.RowKit
set_option linter.unusedVariables false
set_option linter.unusedSimpArgs false
theorem Q9 (x:Rat):AG false x.den 1=A0 x:=by
 unfold AG A0
 rw [Rat.mkRat_one]
 rfl
theorem Nk {j:Nat} {x:Rat} (h:RSz j x):RSz (j+1) (AG false x.den 1):=by
 obtain ⟨e1,e2⟩:=DY (n:=x.den) (d:=1) false (by decide) (Nat.gcd_one_right _)
 refine ⟨?_,?_⟩
 ·rw [e1,Du];exact h.2.mono (by omega)
 ·rw [e2];exact Aj _ _ (by
   have:(4294967296:Nat)^(j+1)≥4294967296^1:=Nat.pow_le_pow_right (by decide) (by omega)
   omega)
set_option maxRecDepth 20000 in
theorem WK {w:World} {u:Value} {x:Rat} (hu:Ao w u x) (h1:x.den=1) (hT:Tz w):
  Calls Tryz.prog 148 #[u] w fun e w'=> ∃r,e= .returned r∧Ao w' r (A0 x)∧Kp w w':=by
 have hx:A0 x=((1:Int):Rat):=by unfold A0;rw [h1];rfl
 rw [hx]
 obtain ⟨a1,l1,c1,a2,l2,c2,rfl,m1,m2⟩:=hu.parts
 have HT:=Zb (One.new w (.bool (decide (x.num<0))) (.slice a1 l1 c1) (.slice a2 l2 c2))
 have Hm2:=Zb m2
 have HZ:=Zb hT
 have CW:=Zb (fun w' (t:Tz w')=>Nx (w:=w') 1 (by decide) (by decide) t)
 obtain ⟨p,hp⟩: ∃b,b=decide (x.num<0):=⟨_,rfl⟩
 try rw [←hp] at HT
 try rw [←hp]
 clear hu m1 m2 hp hT hx
 obtain rfl:=(IC Hm2.out).2 (by unfold AT;rw [if_pos h1])
 clear h1
 go_enter Tryz.func148,Tryz.ntmps148
 have KN:=HT.out.k
 have Z_e:=Zb (HZ.out.kp KN)
 clear KN
 obtain ⟨g0,g1,g2,_⟩:=HT.out.ra.cells
 go_wp2_with (go_at_call 123;(with_reducible refine (CW.out _ Z_e.out).mono ?_);rintro e w2 ⟨vr,rfl,hvr,k2⟩;refine Hid.out ?_)
 refine Zb ?_
 have T_2:=Zb (HT.out.kp k2)
 clear HT
 clear k2
 obtain ⟨sgn,q1,r1,s1,q2,r2,s2,rfl⟩:=hvr.lit
 obtain ⟨⟨e0,e1,e2,f0,f1,f2⟩,HPP,HV,HKF⟩:=AP T_2.out.rr T_2.out.k (Below.refl _ _) hvr (by omega)
 clear hvr
 obtain ⟨k0,k1,k2⟩:=HPP.out
 go_wp2
 exact bodyPost_ret (v:= .agg #[.bool sgn,.slice q1 r1 s1,.slice q2 r2 s2]) (by simp [results,Tryz.results148,go_sem,k0,k1,k2]) rfl ⟨_,rfl,HV.out,HKF.out⟩
set_option maxRecDepth 20000 in
theorem U1 {w:World} {u:Value} {x:Rat} (hu:Ao w u x) {j:Nat} (hs:RSz j x) (hj:j≤200000000) (h1:x.den≠1):
  Calls Tryz.prog 148 #[u] w fun e w'=> ∃r,e= .returned r∧Ao w' r (A0 x)∧Kp w w':=by
 have hdn:AT x=x.den:=by unfold AT;rw [if_neg h1]
 obtain ⟨e1,e2⟩:=DY (n:=x.den) (d:=1) false (by decide) (Nat.gcd_one_right _)
 obtain ⟨a1,l1,c1,a2,l2,c2,rfl,m1,m2⟩:=hu.parts
 have HT:=Zb (One.new w (.bool (decide (x.num<0))) (.slice a1 l1 c1) (.slice a2 l2 c2))
 have Hm2:=Zb m2
 have CA:=Zb (fun w' (m:M w' (.slice a2 l2 c2) (AT x))=>(show Calls Tryz.prog 178 #[.agg #[.bool false,.slice a2 l2 c2,.slice none 0 0]] w' fun e w2=> ∃r,e= .returned r∧Ao w2 r (A0 x)∧Kp w' w2 from by
  have hr:Ao w' (.agg #[.bool false,.slice a2 l2 c2,.slice none 0 0]) (AG false x.den 1):=Ao.of (by decide) (Nat.gcd_one_right _) (by rw [←hdn];exact m) (by rw [if_pos rfl];exact Ik w') (fun _=>rfl)
  have h:=T7 hr (Nk hs) (by omega)
  rw [e1,e2,Du,Q9] at h
  exact h))
 obtain ⟨p,hp⟩: ∃b,b=decide (x.num<0):=⟨_,rfl⟩
 try rw [←hp] at HT
 try rw [←hp]
 have hl2:0<l2:=by have:=IC Hm2.out;rw [hdn] at this;have:=x.den_nz;omega
 have hl2z:((l2:Int)==0)=false:=beq_eq_false_iff_ne.2 (by omega)
 clear hu m1 m2 hp e1 e2 hdn hs hj h1
 go_enter Tryz.func148,Tryz.ntmps148
 have KN:=HT.out.k
 have m2_e:=Zb (Hm2.out.kp KN)
 clear KN
 obtain ⟨g0,g1,g2,_⟩:=HT.out.ra.cells
 go_wp2_with (go_at_call 178;(with_reducible refine (CA.out _ m2_e.out).mono ?_);rintro e w2 ⟨vr,rfl,hvr,k2⟩;refine Hid.out ?_)
 refine Zb ?_
 have T_2:=Zb (HT.out.kp k2)
 clear HT
 clear k2
 obtain ⟨sgn,q1,r1,s1,q2,r2,s2,rfl⟩:=hvr.lit
 obtain ⟨⟨e0,e1,e2,f0,f1,f2⟩,HPP,HV,HKF⟩:=AP T_2.out.rr T_2.out.k (Below.refl _ _) hvr (by omega)
 clear hvr
 obtain ⟨k0,k1,k2⟩:=HPP.out
 go_wp2
 exact bodyPost_ret (v:= .agg #[.bool sgn,.slice q1 r1 s1,.slice q2 r2 s2]) (by simp [results,Tryz.results148,go_sem,k0,k1,k2]) rfl ⟨_,rfl,HV.out,HKF.out⟩
theorem Xl {j:Nat} {x:Rat} (hj:j≤100000000):Ctr Tryz.prog Amb 148 [nm j x] (nm (j+2) (A0 x)):=
 YM (fun w u t hu hs=>by
  by_cases h1:x.den=1
  ·exact WK hu h1 t
  ·exact U1 hu hs (by omega) h1) fun hs=>by rw [←Q9];exact Nk hs
end Go.Proofs.YtnkobfcnflphkaaGreatDoor
