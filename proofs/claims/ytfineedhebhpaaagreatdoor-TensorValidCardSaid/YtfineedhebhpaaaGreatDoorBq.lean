/-
  Several texts in one: Qt2.
-/
import Derived.Test.YtfineedhebhpaaaGreatDoorBy
import Derived.Test.YtfineedhebhpaaaGreatDoorBr
import Derived.Test.YtfineedhebhpaaaGreatDoorBb
import Derived.Test.YtfineedhebhpaaaGreatDoorBh
namespace Go.Proofs.YtfineedhebhpaaaGreatDoor
open Lib renaming hid→Yt
set_option maxHeartbeats 16000000
open Go.RowKit
open Go.Lib (decDigits)
def P7 (x:Rat):List UInt8:=(if x.num<0 then [45] else [])++decDigits x.num.natAbs++(if x.den=1 then [] else 47::decDigits x.den)
theorem N8 {n k:Nat} (h:Sz k n):(decDigits n).length≤10*k+1:=Wf n k (Nat.lt_of_lt_of_le (Cw n) (Nat.pow_le_pow_right (by decide) h))
theorem Hf {a b:ByteArray} (h:a=b):Ending.returned (.string a)= .returned (.string b):=by rw [h]
theorem NN {w:World} {o:Option Addr} {l c n:Nat} (h:M w (.slice o l c) n):l=0↔n=0:=by
 obtain ⟨o',c',e,_⟩:=h
 have:=(by simpa using e:o=o'∧l=(toL n).length∧c=c')
 rw [this.2.1,List.length_eq_zero_iff,AU]
set_option maxRecDepth 20000 in
theorem OQ {w:World} {u:Value} {x:Rat} (hu:Ax w u x) {j:Nat} (hs:RSz j x) (hj:j≤1000000):
  Calls Tryz.prog 79 #[u] w fun e w'=>e= .returned (.string ⟨(P7 x).toArray⟩)∧Kp w w':=by
 unfold P7
 obtain ⟨a1,l1,c1,a2,l2,c2,rfl,m1,m2⟩:=hu.parts
 have HT:=Yt (P1.new w (.bool (decide (x.num<0))) (.slice a1 l1 c1) (.slice a2 l2 c2))
 have HU:=Yt hu
 have Hm1:=Yt m1
 have Hm2:=Yt m2
 have CN:=Yt (fun w' (kk:Kp w w') v (a:M w' v (x.num.natAbs))=>KE v _ j w' a hs.1 hj)
 have CD:=Yt (fun w' (kk:Kp w w') v (a:M w' v (x.den))=>KE v _ j w' a hs.2 hj)
 obtain ⟨p,hp⟩: ∃b,b=decide (x.num<0):=⟨_,rfl⟩
 try rw [←hp] at HT
 try rw [←hp] at HU
 try rw [←hp] at Hm1
 try rw [←hp] at Hm2
 try rw [←hp] at CN
 try rw [←hp] at CD
 try rw [←hp]
 have HPp:=Yt hp
 clear hu m1 m2 hp
 have hl2:=NN Hm2.out
 have hpx:(if x.num<0 then ([45]:List UInt8) else [])=if p=true then [45] else []:=by rw [HPp.out];by_cases h:x.num<0<;>simp [h]
 rw [hpx]
 clear hpx
 obtain ⟨dn,hdn⟩: ∃d,d=decDigits x.num.natAbs:=⟨_,rfl⟩
 obtain ⟨dd,hdd⟩: ∃d,d=decDigits x.den:=⟨_,rfl⟩
 rw [←hdn] at CN⊢
 rw [←hdd] at CD⊢
 have hln:dn.length≤10*j+1:=by rw [hdn];exact N8 hs.1
 have hld:dd.length≤10*j+1:=by rw [hdd];exact N8 hs.2
 have t1:(9223372036854775807<1+dn.length)=False:=eq_false (by omega)
 have t2:(9223372036854775807<1+dd.length)=False:=eq_false (by omega)
 have t3:(9223372036854775807<dn.length+(1+dd.length))=False:=eq_false (by omega)
 have t4:(9223372036854775807<1+dn.length+(1+dd.length))=False:=eq_false (by omega)
 have t5:(9223372036854775807<dn.length+1+(1+dd.length))=False:=eq_false (by omega)
 have t6:(9223372036854775807<dn.length+1+(dd.length+1))=False:=eq_false (by omega)
 clear hdn hdd hs hj hln hld
 by_cases h1:x.den=1
 ·rw [if_pos h1,List.append_nil]
  obtain rfl:=hl2.2 (by unfold AX;rw [if_pos h1])
  clear hl2 CD h1
  cases p
  ·skip
   go_enter Tryz.func79,Tryz.ntmps79
   have KN:=HT.out.k
   have U_e:=Yt (HU.out.kp KN)
   have m1_e:=Yt (Hm1.out.kp KN)
   have m2_e:=Yt (Hm2.out.kp KN)
   clear KN
   obtain ⟨g0,g1,g2,_⟩:=HT.out.ra.cells
   go_wp2_with (go_at_call 156;(with_reducible refine (CN.out _ HT.out.k _ m1_e.out).mono ?_);rintro e w2 ⟨rfl,k2⟩;refine Hid.out ?_)
   refine Yt ?_
   have T_2:=Yt (HT.out.kp k2)
   have U_2:=Yt (U_e.out.kp k2)
   have m1_2:=Yt (m1_e.out.kp k2)
   have m2_2:=Yt (m2_e.out.kp k2)
   clear HT U_e m1_e m2_e
   clear k2
   obtain ⟨g0,g1,g2,_⟩:=T_2.out.ra.cells
   go_wp2
   go_ret
   exact ⟨Hf (by apply ByteArray.ext;simp),T_2.out.k⟩
  ·skip
   go_enter Tryz.func79,Tryz.ntmps79
   have KN:=HT.out.k
   have U_e:=Yt (HU.out.kp KN)
   have m1_e:=Yt (Hm1.out.kp KN)
   have m2_e:=Yt (Hm2.out.kp KN)
   clear KN
   obtain ⟨g0,g1,g2,_⟩:=HT.out.ra.cells
   go_wp2_with (go_at_call 156;(with_reducible refine (CN.out _ HT.out.k _ m1_e.out).mono ?_);rintro e w2 ⟨rfl,k2⟩;refine Hid.out ?_)
   refine Yt ?_
   have T_2:=Yt (HT.out.kp k2)
   have U_2:=Yt (U_e.out.kp k2)
   have m1_2:=Yt (m1_e.out.kp k2)
   have m2_2:=Yt (m2_e.out.kp k2)
   clear HT U_e m1_e m2_e
   clear k2
   obtain ⟨g0,g1,g2,_⟩:=T_2.out.ra.cells
   go_wp2
   go_ret
   exact ⟨Hf (by apply ByteArray.ext;simp),T_2.out.k⟩
 ·rw [if_neg h1]
  have hl20:0<l2:=by
   have h2:AX x=x.den:=if_neg h1
   rw [h2] at hl2
   have:=x.den_nz
   omega
  have hdn:AX x=x.den:=if_neg h1
  rw [hdn] at Hm2
  clear hl2 h1 hdn
  cases p
  ·skip
   go_enter Tryz.func79,Tryz.ntmps79
   have KN:=HT.out.k
   have U_e:=Yt (HU.out.kp KN)
   have m1_e:=Yt (Hm1.out.kp KN)
   have m2_e:=Yt (Hm2.out.kp KN)
   clear KN
   obtain ⟨g0,g1,g2,_⟩:=HT.out.ra.cells
   go_wp2_with (go_at_call 156;(with_reducible refine (CN.out _ HT.out.k _ m1_e.out).mono ?_);rintro e w2 ⟨rfl,k2⟩;refine Hid.out ?_)
   refine Yt ?_
   have T_2:=Yt (HT.out.kp k2)
   have U_2:=Yt (U_e.out.kp k2)
   have m1_2:=Yt (m1_e.out.kp k2)
   have m2_2:=Yt (m2_e.out.kp k2)
   clear HT U_e m1_e m2_e
   clear k2
   obtain ⟨g0,g1,g2,_⟩:=T_2.out.ra.cells
   go_wp2_with (go_at_call 156;(with_reducible refine (CD.out _ T_2.out.k _ m2_2.out).mono ?_);rintro e w3 ⟨rfl,k3⟩;refine Hid.out ?_)
   refine Yt ?_
   have T_3:=Yt (T_2.out.kp k3)
   have U_3:=Yt (U_2.out.kp k3)
   have m1_3:=Yt (m1_2.out.kp k3)
   have m2_3:=Yt (m2_2.out.kp k3)
   clear T_2 U_2 m1_2 m2_2
   clear k3
   obtain ⟨g0,g1,g2,_⟩:=T_3.out.ra.cells
   go_wp2
   go_ret
   exact ⟨Hf (by apply ByteArray.ext;simp),T_3.out.k⟩
  ·skip
   go_enter Tryz.func79,Tryz.ntmps79
   have KN:=HT.out.k
   have U_e:=Yt (HU.out.kp KN)
   have m1_e:=Yt (Hm1.out.kp KN)
   have m2_e:=Yt (Hm2.out.kp KN)
   clear KN
   obtain ⟨g0,g1,g2,_⟩:=HT.out.ra.cells
   go_wp2_with (go_at_call 156;(with_reducible refine (CN.out _ HT.out.k _ m1_e.out).mono ?_);rintro e w2 ⟨rfl,k2⟩;refine Hid.out ?_)
   refine Yt ?_
   have T_2:=Yt (HT.out.kp k2)
   have U_2:=Yt (U_e.out.kp k2)
   have m1_2:=Yt (m1_e.out.kp k2)
   have m2_2:=Yt (m2_e.out.kp k2)
   clear HT U_e m1_e m2_e
   clear k2
   obtain ⟨g0,g1,g2,_⟩:=T_2.out.ra.cells
   go_wp2_with (go_at_call 156;(with_reducible refine (CD.out _ T_2.out.k _ m2_2.out).mono ?_);rintro e w3 ⟨rfl,k3⟩;refine Hid.out ?_)
   refine Yt ?_
   have T_3:=Yt (T_2.out.kp k3)
   have U_3:=Yt (U_2.out.kp k3)
   have m1_3:=Yt (m1_2.out.kp k3)
   have m2_3:=Yt (m2_2.out.kp k3)
   clear T_2 U_2 m1_2 m2_2
   clear k3
   obtain ⟨g0,g1,g2,_⟩:=T_3.out.ra.cells
   go_wp2
   go_ret
   exact ⟨Hf (by apply ByteArray.ext;simp),T_3.out.k⟩
end Go.Proofs.YtfineedhebhpaaaGreatDoor
