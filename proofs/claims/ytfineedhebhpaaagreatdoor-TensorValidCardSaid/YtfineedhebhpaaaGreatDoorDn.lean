/-
  numbers.Denominator, by walking its text.
-/
import Derived.Test.YtfineedhebhpaaaGreatDoorGk
import Derived.Test.YtfineedhebhpaaaGreatDoorHz
namespace Go.Proofs.YtfineedhebhpaaaGreatDoor
open Lib renaming hid→Yt
set_option maxHeartbeats 16000000
open Go.RowKit
set_option linter.unusedVariables false
set_option linter.unusedSimpArgs false
theorem QH (x:Rat):AE false x.den 1=BV x:=by
 unfold AE BV
 rw [Rat.mkRat_one]
 rfl
theorem Nc {j:Nat} {x:Rat} (h:RSz j x):RSz (j+1) (AE false x.den 1):=by
 obtain ⟨e1,e2⟩:=DX (n:=x.den) (d:=1) false (by decide) (Nat.gcd_one_right _)
 refine ⟨?_,?_⟩
 ·rw [e1,Dt];exact h.2.mono (by omega)
 ·rw [e2];exact Al _ _ (by
   have:(4294967296:Nat)^(j+1)≥4294967296^1:=Nat.pow_le_pow_right (by decide) (by omega)
   omega)
set_option maxRecDepth 20000 in
theorem Wc {w:World} {u:Value} {x:Rat} (hu:Ax w u x) (h1:x.den=1) (hT:Tz w):
  Calls Tryz.prog 216 #[u] w fun e w'=> ∃r,e= .returned r∧Ax w' r (BV x)∧Kp w w':=by
 have hx:BV x=((1:Int):Rat):=by unfold BV;rw [h1];rfl
 rw [hx]
 obtain ⟨a1,l1,c1,a2,l2,c2,rfl,m1,m2⟩:=hu.parts
 have HT:=Yt (One.new w (.bool (decide (x.num<0))) (.slice a1 l1 c1) (.slice a2 l2 c2))
 have Hm2:=Yt m2
 have HZ:=Yt hT
 have CW:=Yt (fun w' (t:Tz w')=>Nr (w:=w') 1 (by decide) (by decide) t)
 obtain ⟨p,hp⟩: ∃b,b=decide (x.num<0):=⟨_,rfl⟩
 try rw [←hp] at HT
 try rw [←hp]
 clear hu m1 m2 hp hT hx
 obtain rfl:=(IA Hm2.out).2 (by unfold AX;rw [if_pos h1])
 clear h1
 go_enter Tryz.func216,Tryz.ntmps216
 have KN:=HT.out.k
 have Z_e:=Yt (HZ.out.kp KN)
 clear KN
 obtain ⟨g0,g1,g2,_⟩:=HT.out.ra.cells
 go_wp2_with (go_at_call 168;(with_reducible refine (CW.out _ Z_e.out).mono ?_);rintro e w2 ⟨vr,rfl,hvr,k2⟩;refine Hid.out ?_)
 refine Yt ?_
 have T_2:=Yt (HT.out.kp k2)
 clear HT
 clear k2
 obtain ⟨sgn,q1,r1,s1,q2,r2,s2,rfl⟩:=hvr.lit
 obtain ⟨⟨e0,e1,e2,f0,f1,f2⟩,HPP,HV,HKF⟩:=Bz T_2.out.rr T_2.out.k (Below.refl _ _) hvr (by omega)
 clear hvr
 obtain ⟨k0,k1,k2⟩:=HPP.out
 go_wp2
 exact bodyPost_ret (v:= .agg #[.bool sgn,.slice q1 r1 s1,.slice q2 r2 s2]) (by simp [results,Tryz.results216,go_sem,k0,k1,k2]) rfl ⟨_,rfl,HV.out,HKF.out⟩
set_option maxRecDepth 20000 in
theorem UD {w:World} {u:Value} {x:Rat} (hu:Ax w u x) {j:Nat} (hs:RSz j x) (hj:j≤200000000) (h1:x.den≠1):
  Calls Tryz.prog 216 #[u] w fun e w'=> ∃r,e= .returned r∧Ax w' r (BV x)∧Kp w w':=by
 have hdn:AX x=x.den:=by unfold AX;rw [if_neg h1]
 obtain ⟨e1,e2⟩:=DX (n:=x.den) (d:=1) false (by decide) (Nat.gcd_one_right _)
 obtain ⟨a1,l1,c1,a2,l2,c2,rfl,m1,m2⟩:=hu.parts
 have HT:=Yt (One.new w (.bool (decide (x.num<0))) (.slice a1 l1 c1) (.slice a2 l2 c2))
 have Hm2:=Yt m2
 have CA:=Yt (fun w' (m:M w' (.slice a2 l2 c2) (AX x))=>(show Calls Tryz.prog 256 #[.agg #[.bool false,.slice a2 l2 c2,.slice none 0 0]] w' fun e w2=> ∃r,e= .returned r∧Ax w2 r (BV x)∧Kp w' w2 from by
  have hr:Ax w' (.agg #[.bool false,.slice a2 l2 c2,.slice none 0 0]) (AE false x.den 1):=Ax.of (by decide) (Nat.gcd_one_right _) (by rw [←hdn];exact m) (by rw [if_pos rfl];exact Ij w') (fun _=>rfl)
  have h:=TO hr (Nc hs) (by omega)
  rw [e1,e2,Dt,QH] at h
  exact h))
 obtain ⟨p,hp⟩: ∃b,b=decide (x.num<0):=⟨_,rfl⟩
 try rw [←hp] at HT
 try rw [←hp]
 have hl2:0<l2:=by have:=IA Hm2.out;rw [hdn] at this;have:=x.den_nz;omega
 have hl2z:((l2:Int)==0)=false:=beq_eq_false_iff_ne.2 (by omega)
 clear hu m1 m2 hp e1 e2 hdn hs hj h1
 go_enter Tryz.func216,Tryz.ntmps216
 have KN:=HT.out.k
 have m2_e:=Yt (Hm2.out.kp KN)
 clear KN
 obtain ⟨g0,g1,g2,_⟩:=HT.out.ra.cells
 go_wp2_with (go_at_call 256;(with_reducible refine (CA.out _ m2_e.out).mono ?_);rintro e w2 ⟨vr,rfl,hvr,k2⟩;refine Hid.out ?_)
 refine Yt ?_
 have T_2:=Yt (HT.out.kp k2)
 clear HT
 clear k2
 obtain ⟨sgn,q1,r1,s1,q2,r2,s2,rfl⟩:=hvr.lit
 obtain ⟨⟨e0,e1,e2,f0,f1,f2⟩,HPP,HV,HKF⟩:=Bz T_2.out.rr T_2.out.k (Below.refl _ _) hvr (by omega)
 clear hvr
 obtain ⟨k0,k1,k2⟩:=HPP.out
 go_wp2
 exact bodyPost_ret (v:= .agg #[.bool sgn,.slice q1 r1 s1,.slice q2 r2 s2]) (by simp [results,Tryz.results216,go_sem,k0,k1,k2]) rfl ⟨_,rfl,HV.out,HKF.out⟩
theorem WI {j:Nat} {x:Rat} (hj:j≤100000000):Ctr Tryz.prog Amb 216 [nm j x] (nm (j+2) (BV x)):=
 Ya (fun w u t hu hs=>by
  by_cases h1:x.den=1
  ·exact Wc hu h1 t
  ·exact UD hu hs (by omega) h1) fun hs=>by rw [←QH];exact Nc hs
end Go.Proofs.YtfineedhebhpaaaGreatDoor
