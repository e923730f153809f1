/-
  brepkernelref02.Same, Cmp: by walking their texts.
-/
import Derived.Test.YtfineedhebhpaaaGreatDoorBk
import Derived.Test.YtfineedhebhpaaaGreatDoorBr
namespace Go.Proofs.YtfineedhebhpaaaGreatDoor
open Lib renaming hid→Yt
set_option maxHeartbeats 16000000
open Go.RowKit
theorem Oe (m n:Nat):decide (m=n)=(BZ m n==0):=by
 by_cases h:m=n
 ·rw [decide_eq_true h,Ed h];rfl
 ·rw [decide_eq_false h]
  symm
  refine beq_eq_false_iff_ne.2 ?_
  rcases Nat.lt_or_gt_of_ne h with h1|h1
  ·rw [CY h1];decide
  ·rw [C4 h1];decide
set_option maxRecDepth 20000 in
theorem OR {w:World} {u:Value} {x:Rat} (hu:Ax w u x) {v:Value} {y:Rat} (hv:Ax w v y):
  Calls Tryz.prog 18 #[u,v] w fun e w'=>e= .returned (.bool (decide (x=y)))∧Kp w w':=by
 rw [Jn,Oe,Oe]
 obtain ⟨a1,l1,c1,a2,l2,c2,rfl,m1,m2⟩:=hu.parts
 obtain ⟨a3,l3,c3,a4,l4,c4,rfl,m3,m4⟩:=hv.parts
 have HT:=Yt (P2.new w (.bool (decide (x.num<0))) (.slice a1 l1 c1) (.slice a2 l2 c2) (.bool (decide (y.num<0))) (.slice a3 l3 c3) (.slice a4 l4 c4))
 have HU:=Yt hu
 have Hm1:=Yt m1
 have Hm2:=Yt m2
 have HV:=Yt hv
 have Hm3:=Yt m3
 have Hm4:=Yt m4
 have CN:=Yt (fun w' (a:M w' (.slice a1 l1 c1) x.num.natAbs) (b:M w' (.slice a3 l3 c3) y.num.natAbs)=>CO _ _ _ _ w' a b)
 have CK:=Yt (fun w' (a:M w' (.slice a2 l2 c2) (AX x)) (b:M w' (.slice a4 l4 c4) (AX y))=>CO _ _ _ _ w' a b)
 obtain ⟨p,hp⟩: ∃b,b=decide (x.num<0):=⟨_,rfl⟩
 try rw [←hp] at HT
 try rw [←hp] at HU
 try rw [←hp] at Hm1
 try rw [←hp] at Hm2
 try rw [←hp] at HV
 try rw [←hp] at Hm3
 try rw [←hp] at Hm4
 try rw [←hp] at CN
 try rw [←hp] at CK
 try rw [←hp]
 have HPp:=Yt hp
 obtain ⟨q,hq⟩: ∃b,b=decide (y.num<0):=⟨_,rfl⟩
 try rw [←hq] at HT
 try rw [←hq] at HU
 try rw [←hq] at Hm1
 try rw [←hq] at Hm2
 try rw [←hq] at HV
 try rw [←hq] at Hm3
 try rw [←hq] at Hm4
 try rw [←hq] at CN
 try rw [←hq] at CK
 try rw [←hq]
 have HPq:=Yt hq
 clear hu m1 m2 hp hv m3 m4 hq
 obtain ⟨cn,hcn⟩: ∃c,c=BZ x.num.natAbs y.num.natAbs:=⟨_,rfl⟩
 obtain ⟨ck,hck⟩: ∃c,c=BZ (AX x) (AX y):=⟨_,rfl⟩
 rw [←hcn] at CN⊢
 rw [←hck] at CK⊢
 clear hcn hck
 have hpq:p=q∨q=!p:=by cases p<;>cases q<;>simp
 rcases hpq with hpq|hpq
 ·subst hpq
  have hpp:(p==p)=true:=by simp
  by_cases hc:cn=0
  ·subst hc
   have hz:((0:Int)==0)=true:=rfl
   have HPS:=Yt hpp
   clear hpp
   go_enter Tryz.func18,Tryz.ntmps18
   have KN:=HT.out.k
   have U_e:=Yt (HU.out.kp KN)
   have m1_e:=Yt (Hm1.out.kp KN)
   have m2_e:=Yt (Hm2.out.kp KN)
   have V_e:=Yt (HV.out.kp KN)
   have m3_e:=Yt (Hm3.out.kp KN)
   have m4_e:=Yt (Hm4.out.kp KN)
   clear KN
   obtain ⟨g0,g1,g2,_⟩:=HT.out.ra.cells
   obtain ⟨h0,h1,h2,_⟩:=HT.out.rb.cells
   go_wp2_with (go_at_call 88;(with_reducible refine (CN.out _ m1_e.out m3_e.out).mono ?_);rintro e w2 ⟨rfl,k2⟩;refine Hid.out ?_)
   refine Yt ?_
   have T_2:=Yt (HT.out.kp k2)
   have U_2:=Yt (U_e.out.kp k2)
   have m1_2:=Yt (m1_e.out.kp k2)
   have m2_2:=Yt (m2_e.out.kp k2)
   have V_2:=Yt (V_e.out.kp k2)
   have m3_2:=Yt (m3_e.out.kp k2)
   have m4_2:=Yt (m4_e.out.kp k2)
   clear HT U_e m1_e m2_e V_e m3_e m4_e
   clear k2
   obtain ⟨g0,g1,g2,_⟩:=T_2.out.ra.cells
   obtain ⟨h0,h1,h2,_⟩:=T_2.out.rb.cells
   go_wp2_with (go_at_call 88;(with_reducible refine (CK.out _ m2_2.out m4_2.out).mono ?_);rintro e w3 ⟨rfl,k3⟩;refine Hid.out ?_)
   refine Yt ?_
   have T_3:=Yt (T_2.out.kp k3)
   have U_3:=Yt (U_2.out.kp k3)
   have m1_3:=Yt (m1_2.out.kp k3)
   have m2_3:=Yt (m2_2.out.kp k3)
   have V_3:=Yt (V_2.out.kp k3)
   have m3_3:=Yt (m3_2.out.kp k3)
   have m4_3:=Yt (m4_2.out.kp k3)
   clear T_2 U_2 m1_2 m2_2 V_2 m3_2 m4_2
   clear k3
   obtain ⟨g0,g1,g2,_⟩:=T_3.out.ra.cells
   obtain ⟨h0,h1,h2,_⟩:=T_3.out.rb.cells
   go_wp2
   go_ret
   exact ⟨Er (by rw [HPS.out];simp),T_3.out.k⟩
  ·have hcb:(cn==0)=false:=beq_eq_false_iff_ne.2 hc
   have HPS:=Yt hpp
   have HCB:=Yt hcb
   clear hc hpp
   go_enter Tryz.func18,Tryz.ntmps18
   have KN:=HT.out.k
   have U_e:=Yt (HU.out.kp KN)
   have m1_e:=Yt (Hm1.out.kp KN)
   have m2_e:=Yt (Hm2.out.kp KN)
   have V_e:=Yt (HV.out.kp KN)
   have m3_e:=Yt (Hm3.out.kp KN)
   have m4_e:=Yt (Hm4.out.kp KN)
   clear KN
   obtain ⟨g0,g1,g2,_⟩:=HT.out.ra.cells
   obtain ⟨h0,h1,h2,_⟩:=HT.out.rb.cells
   go_wp2_with (go_at_call 88;(with_reducible refine (CN.out _ m1_e.out m3_e.out).mono ?_);rintro e w2 ⟨rfl,k2⟩;refine Hid.out ?_)
   refine Yt ?_
   have T_2:=Yt (HT.out.kp k2)
   have U_2:=Yt (U_e.out.kp k2)
   have m1_2:=Yt (m1_e.out.kp k2)
   have m2_2:=Yt (m2_e.out.kp k2)
   have V_2:=Yt (V_e.out.kp k2)
   have m3_2:=Yt (m3_e.out.kp k2)
   have m4_2:=Yt (m4_e.out.kp k2)
   clear HT U_e m1_e m2_e V_e m3_e m4_e
   clear k2
   obtain ⟨g0,g1,g2,_⟩:=T_2.out.ra.cells
   obtain ⟨h0,h1,h2,_⟩:=T_2.out.rb.cells
   go_wp2
   go_ret
   exact ⟨Er (by rw [HPS.out,HCB.out];rfl),T_2.out.k⟩
 ·subst hpq
  cases p
  all_goals
   go_enter Tryz.func18,Tryz.ntmps18
   have KN:=HT.out.k
   have U_e:=Yt (HU.out.kp KN)
   have m1_e:=Yt (Hm1.out.kp KN)
   have m2_e:=Yt (Hm2.out.kp KN)
   have V_e:=Yt (HV.out.kp KN)
   have m3_e:=Yt (Hm3.out.kp KN)
   have m4_e:=Yt (Hm4.out.kp KN)
   clear KN
   obtain ⟨g0,g1,g2,_⟩:=HT.out.ra.cells
   obtain ⟨h0,h1,h2,_⟩:=HT.out.rb.cells
   go_wp2
   go_ret
   exact ⟨Er (by simp),HT.out.k⟩
end Go.Proofs.YtfineedhebhpaaaGreatDoor
