/-
  Several texts in one: Qt2.
-/
import Derived.Test.YtkmalkcgkcpcmaaGreatDoorBy
import Derived.Test.YtkmalkcgkcpcmaaGreatDoorBr
import Derived.Test.YtkmalkcgkcpcmaaGreatDoorBb
import Derived.Test.YtkmalkcgkcpcmaaGreatDoorBh
namespace Go.Proofs.YtkmalkcgkcpcmaaGreatDoor
open Go.RowKit
open Go.Lib (decDigits)
def textR (x:Rat):List UInt8:=(if x.num<0 then [45] else [])++decDigits x.num.natAbs++(if x.den=1 then [] else 47::decDigits x.den)
theorem dec_len9 {n k:Nat} (h:Sz k n):(decDigits n).length≤10*k+1:=dec_len n k (Nat.lt_of_lt_of_le (toL_lt n) (Nat.pow_le_pow_right (by decide) h))
theorem ret_str9 {a b:ByteArray} (h:a=b):Ending.returned (.string a)= .returned (.string b):=by rw [h]
theorem m_len_zero9 {w:World} {o:Option Addr} {l c n:Nat} (h:M w (.slice o l c) n):l=0↔n=0:=by
 obtain ⟨o',c',e,_⟩:=h
 have:=(by simpa using e:o=o'∧l=(toL n).length∧c=c')
 rw [this.2.1,List.length_eq_zero_iff,toL_nil_iff]
set_option maxRecDepth 20000 in
set_option maxHeartbeats 4000000 in
theorem rqtext_any {w:World} {u:Value} {x:Rat} (hu:RatV w u x) {j:Nat} (hs:RSz j x) (hj:j≤1000000):
  Calls Tryz.prog 49 #[u] w fun e w'=>e= .returned (.string ⟨(textR x).toArray⟩)∧Kp w w':=by
 unfold textR
 obtain ⟨a1,l1,c1,a2,l2,c2,rfl,m1,m2⟩:=hu.parts
 have HT:=Lib.hid (P1.new w (.bool (decide (x.num<0))) (.slice a1 l1 c1) (.slice a2 l2 c2))
 have HU:=Lib.hid hu
 have Hm1:=Lib.hid m1
 have Hm2:=Lib.hid m2
 have CN:=Lib.hid (fun w' (kk:Kp w w') v (a:M w' v (x.num.natAbs))=>rtext_any v _ j w' a hs.1 hj)
 have CD:=Lib.hid (fun w' (kk:Kp w w') v (a:M w' v (x.den))=>rtext_any v _ j w' a hs.2 hj)
 obtain ⟨p,hp⟩: ∃b,b=decide (x.num<0):=⟨_,rfl⟩
 try rw [←hp] at HT
 try rw [←hp] at HU
 try rw [←hp] at Hm1
 try rw [←hp] at Hm2
 try rw [←hp] at CN
 try rw [←hp] at CD
 try rw [←hp]
 have HPp:=Lib.hid hp
 clear hu m1 m2 hp
 have hl2:=m_len_zero9 Hm2.out
 have hpx:(if x.num<0 then ([45]:List UInt8) else [])=if p=true then [45] else []:=by rw [HPp.out];by_cases h:x.num<0<;>simp [h]
 rw [hpx]
 clear hpx
 obtain ⟨dn,hdn⟩: ∃d,d=decDigits x.num.natAbs:=⟨_,rfl⟩
 obtain ⟨dd,hdd⟩: ∃d,d=decDigits x.den:=⟨_,rfl⟩
 rw [←hdn] at CN⊢
 rw [←hdd] at CD⊢
 have hln:dn.length≤10*j+1:=by rw [hdn];exact dec_len9 hs.1
 have hld:dd.length≤10*j+1:=by rw [hdd];exact dec_len9 hs.2
 have t1:(9223372036854775807<1+dn.length)=False:=eq_false (by omega)
 have t2:(9223372036854775807<1+dd.length)=False:=eq_false (by omega)
 have t3:(9223372036854775807<dn.length+(1+dd.length))=False:=eq_false (by omega)
 have t4:(9223372036854775807<1+dn.length+(1+dd.length))=False:=eq_false (by omega)
 have t5:(9223372036854775807<dn.length+1+(1+dd.length))=False:=eq_false (by omega)
 have t6:(9223372036854775807<dn.length+1+(dd.length+1))=False:=eq_false (by omega)
 clear hdn hdd hs hj hln hld
 by_cases h1:x.den=1
 ·rw [if_pos h1,List.append_nil]
  obtain rfl:=hl2.2 (by unfold denOf;rw [if_pos h1])
  clear hl2 CD h1
  cases p
  ·skip
   go_enter Tryz.func49,Tryz.ntmps49
   have KN:=HT.out.k
   have U_e:=Lib.hid (HU.out.kp KN)
   have m1_e:=Lib.hid (Hm1.out.kp KN)
   have m2_e:=Lib.hid (Hm2.out.kp KN)
   clear KN
   obtain ⟨g0,g1,g2,_⟩:=HT.out.ra.cells
   go_wp2_with (go_at_call 95;(with_reducible refine (CN.out _ HT.out.k _ m1_e.out).mono ?_);rintro e w2 ⟨rfl,k2⟩;refine Hid.out ?_)
   refine Lib.hid ?_
   have T_2:=Lib.hid (HT.out.kp k2)
   have U_2:=Lib.hid (U_e.out.kp k2)
   have m1_2:=Lib.hid (m1_e.out.kp k2)
   have m2_2:=Lib.hid (m2_e.out.kp k2)
   clear HT U_e m1_e m2_e
   clear k2
   obtain ⟨g0,g1,g2,_⟩:=T_2.out.ra.cells
   go_wp2
   go_ret
   exact ⟨ret_str9 (by apply ByteArray.ext;simp),T_2.out.k⟩
  ·skip
   go_enter Tryz.func49,Tryz.ntmps49
   have KN:=HT.out.k
   have U_e:=Lib.hid (HU.out.kp KN)
   have m1_e:=Lib.hid (Hm1.out.kp KN)
   have m2_e:=Lib.hid (Hm2.out.kp KN)
   clear KN
   obtain ⟨g0,g1,g2,_⟩:=HT.out.ra.cells
   go_wp2_with (go_at_call 95;(with_reducible refine (CN.out _ HT.out.k _ m1_e.out).mono ?_);rintro e w2 ⟨rfl,k2⟩;refine Hid.out ?_)
   refine Lib.hid ?_
   have T_2:=Lib.hid (HT.out.kp k2)
   have U_2:=Lib.hid (U_e.out.kp k2)
   have m1_2:=Lib.hid (m1_e.out.kp k2)
   have m2_2:=Lib.hid (m2_e.out.kp k2)
   clear HT U_e m1_e m2_e
   clear k2
   obtain ⟨g0,g1,g2,_⟩:=T_2.out.ra.cells
   go_wp2
   go_ret
   exact ⟨ret_str9 (by apply ByteArray.ext;simp),T_2.out.k⟩
 ·rw [if_neg h1]
  have hl20:0<l2:=by
   have h2:denOf x=x.den:=if_neg h1
   rw [h2] at hl2
   have:=x.den_nz
   omega
  have hdn:denOf x=x.den:=if_neg h1
  rw [hdn] at Hm2
  clear hl2 h1 hdn
  cases p
  ·skip
   go_enter Tryz.func49,Tryz.ntmps49
   have KN:=HT.out.k
   have U_e:=Lib.hid (HU.out.kp KN)
   have m1_e:=Lib.hid (Hm1.out.kp KN)
   have m2_e:=Lib.hid (Hm2.out.kp KN)
   clear KN
   obtain ⟨g0,g1,g2,_⟩:=HT.out.ra.cells
   go_wp2_with (go_at_call 95;(with_reducible refine (CN.out _ HT.out.k _ m1_e.out).mono ?_);rintro e w2 ⟨rfl,k2⟩;refine Hid.out ?_)
   refine Lib.hid ?_
   have T_2:=Lib.hid (HT.out.kp k2)
   have U_2:=Lib.hid (U_e.out.kp k2)
   have m1_2:=Lib.hid (m1_e.out.kp k2)
   have m2_2:=Lib.hid (m2_e.out.kp k2)
   clear HT U_e m1_e m2_e
   clear k2
   obtain ⟨g0,g1,g2,_⟩:=T_2.out.ra.cells
   go_wp2_with (go_at_call 95;(with_reducible refine (CD.out _ T_2.out.k _ m2_2.out).mono ?_);rintro e w3 ⟨rfl,k3⟩;refine Hid.out ?_)
   refine Lib.hid ?_
   have T_3:=Lib.hid (T_2.out.kp k3)
   have U_3:=Lib.hid (U_2.out.kp k3)
   have m1_3:=Lib.hid (m1_2.out.kp k3)
   have m2_3:=Lib.hid (m2_2.out.kp k3)
   clear T_2 U_2 m1_2 m2_2
   clear k3
   obtain ⟨g0,g1,g2,_⟩:=T_3.out.ra.cells
   go_wp2
   go_ret
   exact ⟨ret_str9 (by apply ByteArray.ext;simp),T_3.out.k⟩
  ·skip
   go_enter Tryz.func49,Tryz.ntmps49
   have KN:=HT.out.k
   have U_e:=Lib.hid (HU.out.kp KN)
   have m1_e:=Lib.hid (Hm1.out.kp KN)
   have m2_e:=Lib.hid (Hm2.out.kp KN)
   clear KN
   obtain ⟨g0,g1,g2,_⟩:=HT.out.ra.cells
   go_wp2_with (go_at_call 95;(with_reducible refine (CN.out _ HT.out.k _ m1_e.out).mono ?_);rintro e w2 ⟨rfl,k2⟩;refine Hid.out ?_)
   refine Lib.hid ?_
   have T_2:=Lib.hid (HT.out.kp k2)
   have U_2:=Lib.hid (U_e.out.kp k2)
   have m1_2:=Lib.hid (m1_e.out.kp k2)
   have m2_2:=Lib.hid (m2_e.out.kp k2)
   clear HT U_e m1_e m2_e
   clear k2
   obtain ⟨g0,g1,g2,_⟩:=T_2.out.ra.cells
   go_wp2_with (go_at_call 95;(with_reducible refine (CD.out _ T_2.out.k _ m2_2.out).mono ?_);rintro e w3 ⟨rfl,k3⟩;refine Hid.out ?_)
   refine Lib.hid ?_
   have T_3:=Lib.hid (T_2.out.kp k3)
   have U_3:=Lib.hid (U_2.out.kp k3)
   have m1_3:=Lib.hid (m1_2.out.kp k3)
   have m2_3:=Lib.hid (m2_2.out.kp k3)
   clear T_2 U_2 m1_2 m2_2
   clear k3
   obtain ⟨g0,g1,g2,_⟩:=T_3.out.ra.cells
   go_wp2
   go_ret
   exact ⟨ret_str9 (by apply ByteArray.ext;simp),T_3.out.k⟩
end Go.Proofs.YtkmalkcgkcpcmaaGreatDoor
